/-
  Merged: Op, Ini.
-/
import Derived.Test.YtjkbjbikofindaaMChain
import Derived.Test.YtjkbjbikofindaaMHead
namespace Go.Proofs.Ytjkbjbikofindaa
open Go.RowKit
set_option maxRecDepth 100000
set_option linter.unusedVariables false

/-- Words that fit into 64 bits. -/
def U64w (nw : Nat) (wd : Nat → Int) : Prop := ∀ j, j < nw → 0 ≤ wd j ∧ wd j < 18446744073709551616

section
variable {s : Int} {nw : Nat} {wd : Nat → Int} {n : Nat} {F : Nat → Fr} {a k : Int}

/-- Where Step answers. -/
theorem stp_iff : stpE s nw wd n F a k = 0 ↔ (validB s nw wd n F = true ∧ adB nw a = true ∧ 0 ≤ k ∧ (F (a / 2 ^ s.toNat).toNat).ow ≠ -1 ∧ a % 2 ^ s.toNat + k < ((chL F n (a / 2 ^ s.toNat).toNat).length : Int) * 2 ^ s.toNat) := by
  unfold stpE
  by_cases h1 : validB s nw wd n F = false
  · rw [if_pos h1]; simp [h1]
  · have h1' : validB s nw wd n F = true := by simpa using h1
    rw [if_neg h1]
    by_cases h2 : adB nw a = false ∨ k < 0
    · rw [if_pos h2]
      refine ⟨fun h => absurd h (by decide), fun h => ?_⟩
      rcases h2 with h2 | h2
      · rw [h2] at h; exact absurd h.2.1 (by decide)
      · omega
    · rw [if_neg h2]
      have h2a : adB nw a = true := by
        cases e : adB nw a
        · exact absurd (.inl e) h2
        · rfl
      have h2b : 0 ≤ k := by
        rcases Int.lt_or_le k 0 with e | e
        · exact absurd (.inr e) h2
        · exact e
      by_cases h3 : (F (a / 2 ^ s.toNat).toNat).ow = -1
      · rw [if_pos h3]
        exact ⟨fun h => absurd h (by decide), fun h => absurd h3 h.2.2.2.1⟩
      · rw [if_neg h3]
        by_cases h4 : ((chL F n (a / 2 ^ s.toNat).toNat).length : Int) * 2 ^ s.toNat ≤ a % 2 ^ s.toNat + k
        · rw [if_pos h4]
          exact ⟨fun h => absurd h (by decide), fun h => absurd h4 (Int.not_le.2 h.2.2.2.2)⟩
        · rw [if_neg h4]
          exact ⟨fun _ => ⟨h1', h2a, h2b, h3, Int.not_le.1 h4⟩, fun _ => rfl⟩
theorem stp_more (h : stpE s nw wd n F a 0 = 0) (hk : 0 ≤ k) : stpE s nw wd n F a k = 0 ∨ stpE s nw wd n F a k = 2 := by
  obtain ⟨h1, h2, _, h3, _⟩ := stp_iff.1 h
  unfold stpE
  rw [if_neg (by simp [h1]), if_neg (by simp [h2]; omega), if_neg h3]
  split
  · exact .inr rfl
  · exact .inl rfl
theorem stp_less {j : Int} (h : stpE s nw wd n F a k = 0) (hj : 0 ≤ j) (hk : j ≤ k) : stpE s nw wd n F a j = 0 := by
  obtain ⟨h1, h2, h3, h4, h5⟩ := stp_iff.1 h
  exact stp_iff.2 ⟨h1, h2, hj, h4, by omega⟩
end

section
variable {K : Nat} {nw : Nat} {wd : Nat → Int} {n : Nat} {F : Nat → Fr} {a k : Int}

/-- Where an address lies whose Step answers: its frame y, its place r there, the m frames from y on. -/
theorem stp_on (h : stpE K nw wd n F a k = 0) : ∃ y r m x : Nat, ValidP K nw wd n F ∧ adB nw a = true ∧ PartsA K a y r ∧ y < n ∧ (F y).ow ≠ -1 ∧ LenP F y m ∧ m ≤ n + 1 ∧ k = x ∧ r + x < m * 2 ^ K ∧ stpV K nw wd n F a k = addrP F K y (r + x) := by
  obtain ⟨h1, h2, h3, h4, h5⟩ := stp_iff.1 h
  have hv := validB_of h1
  have hw := hv.2.2.1
  rw [Int.toNat_natCast] at hw
  obtain ⟨y, r, hp, hy⟩ := partsA h2 hw
  obtain ⟨x, rfl⟩ := Int.eq_ofNat_of_zero_le h3
  obtain ⟨m, hm, hl⟩ := hv.fv.len hy
  have ez : (2 : Int) ^ K = ((2 ^ K : Nat) : Int) := by simp
  rw [Int.toNat_natCast, hp.1, Int.toNat_natCast] at h4
  rw [Int.toNat_natCast, hp.1, hp.2.1, Int.toNat_natCast, chL_length hl hm, ez, ← Int.natCast_mul] at h5
  have h6 : r + x < m * 2 ^ K := by omega
  exact ⟨y, r, m, x, hv, h2, hp, hy, h4, hl, hm, rfl, h6, (stp_ok h1 h2 hp h4 (chL_length hl hm) h6).2⟩

/-- The word at a place of a chain. -/
theorem addr_in {m y P : Nat} (hv : ValidP K nw wd n F) (hy : y < n) (ho : (F y).ow ≠ -1) (hl : LenP F y m) (hP : P < m * 2 ^ K) :
    ∃ z r : Nat, addrP F K y P = ((z * 2 ^ K + r : Nat) : Int) ∧ r < 2 ^ K ∧ z < n ∧ (F z).ow = (F y).ow ∧ z * 2 ^ K + r < nw ∧ iter F (P / 2 ^ K) y = z ∧ r = P % 2 ^ K := by
  have hw := hv.2.2.1
  rw [Int.toNat_natCast] at hw
  have hq : P / 2 ^ K < m := Nat.div_lt_of_lt_mul (by rw [Nat.mul_comm]; exact hP)
  have h0 := hv.fv.nonneg hy (hl.2 _ hq)
  obtain ⟨z, hz⟩ : ∃ z : Nat, iter F (P / 2 ^ K) y = z := ⟨(iter F (P / 2 ^ K) y).toNat, by omega⟩
  have h1 := (hv.fv.along hy ho _ (hl.2 _ hq)).1
  rw [hz, Int.toNat_natCast] at h1
  have hr : P % 2 ^ K < 2 ^ K := Nat.mod_lt _ (Nat.two_pow_pos K)
  have hzn : z < n := by omega
  have hm := Nat.mul_le_mul_right (2 ^ K) (show z + 1 ≤ n by omega)
  rw [Nat.add_mul, Nat.one_mul] at hm
  exact ⟨z, P % 2 ^ K, (addrP_split hz).1, hr, hzn, h1, by omega, hz, rfl⟩
theorem parts_uniq {z r z' r' : Nat} (hr : r < 2 ^ K) (hr' : r' < 2 ^ K) (h : z * 2 ^ K + r = z' * 2 ^ K + r') : z = z' ∧ r = r' := by
  have hz : 0 < 2 ^ K := Nat.two_pow_pos K
  have e : ∀ x y : Nat, y < 2 ^ K → (x * 2 ^ K + y) / 2 ^ K = x := fun x y hy => by rw [Nat.add_comm, Nat.add_mul_div_right _ _ hz, Nat.div_eq_of_lt hy, Nat.zero_add]
  have h1 : z = z' := by rw [← e z r hr, h, e z' r' hr']
  subst h1
  exact ⟨rfl, by omega⟩
/-- Different places are different words. -/
theorem addr_inj {m y P Q : Nat} (hv : ValidP K nw wd n F) (hy : y < n) (ho : (F y).ow ≠ -1) (hl : LenP F y m) (hP : P < m * 2 ^ K) (hQ : Q < m * 2 ^ K) (h : addrP F K y P = addrP F K y Q) : P = Q := by
  obtain ⟨z, r, e1, h1, _, _, _, i1, r1⟩ := addr_in hv hy ho hl hP
  obtain ⟨z', r', e2, h2, _, _, _, i2, r2⟩ := addr_in hv hy ho hl hQ
  rw [e1, e2] at h
  obtain ⟨rfl, rfl⟩ := parts_uniq h1 h2 (by exact_mod_cast h)
  have hq : P / 2 ^ K < m := Nat.div_lt_of_lt_mul (by rw [Nat.mul_comm]; exact hP)
  have hq' : Q / 2 ^ K < m := Nat.div_lt_of_lt_mul (by rw [Nat.mul_comm]; exact hQ)
  have h3 : P / 2 ^ K = Q / 2 ^ K := by
    rcases Nat.lt_trichotomy (P / 2 ^ K) (Q / 2 ^ K) with x | x | x
    · exact absurd (i1.trans i2.symm) (hl.inj x hq')
    · exact x
    · exact absurd (i2.trans i1.symm) (hl.inj x hq)
  rw [← Nat.div_add_mod P (2 ^ K), ← Nat.div_add_mod Q (2 ^ K), h3, ← r1, ← r2]
/-- Step along a chain from one of its words. -/
theorem addr_stp {m y P Q : Nat} (hv : ValidP K nw wd n F) (hy : y < n) (ho : (F y).ow ≠ -1) (hl : LenP F y m) (h : P + Q < m * 2 ^ K) :
    stpE K nw wd n F (addrP F K y P) Q = 0 ∧ stpV K nw wd n F (addrP F K y P) Q = addrP F K y (P + Q) := by
  obtain ⟨z, r, e1, h1, hz, hoz, hlt, i1, r1⟩ := addr_in hv hy ho hl (show P < m * 2 ^ K by omega)
  have hq : P / 2 ^ K < m := Nat.div_lt_of_lt_mul (by rw [Nat.mul_comm]; omega)
  have ez : (2 : Int) ^ K = ((2 ^ K : Nat) : Int) := by simp
  have hz0 : 0 < 2 ^ K := Nat.two_pow_pos K
  have hp : PartsA K (addrP F K y P) z r := by
    rw [e1]
    refine ⟨?_, ?_, h1, rfl⟩
    · rw [ez, ← Int.natCast_ediv, Nat.add_comm, Nat.add_mul_div_right _ _ hz0, Nat.div_eq_of_lt h1, Nat.zero_add]
    · rw [ez, ← Int.natCast_emod, Nat.add_comm, Nat.add_mul_mod_self_right, Nat.mod_eq_of_lt h1]
  have hlz : LenP F z (m - P / 2 ^ K) := by rw [← i1]; exact hl.from_ hq
  have hb := hl.bound hv.fv rfl hy
  have hd : P = P / 2 ^ K * 2 ^ K + r := by rw [r1]; exact (Nat.div_add_mod' P (2 ^ K)).symm
  have hms : (m - P / 2 ^ K) * 2 ^ K = m * 2 ^ K - P / 2 ^ K * 2 ^ K := Nat.sub_mul _ _ _
  have h7 : r + Q < (m - P / 2 ^ K) * 2 ^ K := by
    rw [hms]
    obtain ⟨Y, hY⟩ : ∃ Y, Y = P / 2 ^ K * 2 ^ K := ⟨_, rfl⟩
    obtain ⟨X, hX⟩ : ∃ X, X = m * 2 ^ K := ⟨_, rfl⟩
    rw [← hY] at hd ⊢
    rw [← hX] at h ⊢
    clear hY hX hms hb hlz hp e1 hz0 ez
    omega
  obtain ⟨c1, c2⟩ := stp_ok (x := Q) (validB_yes hv) (adB_of (nw := nw) (a := addrP F K y P) (by rw [e1]; omega)) hp (by rw [hoz]; exact ho) (chL_length hlz (Nat.le_trans (Nat.sub_le _ _) hb)) h7
  refine ⟨c1, ?_⟩
  rw [c2, ← i1]
  exact addrP_add hd
theorem addr_self {y r : Nat} (hr : r < 2 ^ K) : addrP F K y r = ((y * 2 ^ K + r : Nat) : Int) := by
  have h := addrP_at (F := F) (first := y) (q := 0) (r := r) (P := r) (k := K) (y := y) (by omega) hr rfl
  rw [h]; simp
theorem stp_self (h : stpE K nw wd n F a 0 = 0) : stpV K nw wd n F a 0 = a := by
  obtain ⟨y, r, m, x, hv, h2, hp, hy, ho, hl, hm, hx, h6, h7⟩ := stp_on h
  obtain rfl : x = 0 := by omega
  rw [h7, Nat.add_zero, addr_self hp.2.2.1]
  exact hp.2.2.2.symm
/-- The words to which Step leads are words of the space, in owned frames. -/
theorem stp_word (h : stpE K nw wd n F a k = 0) : ∃ z r : Nat, stpV K nw wd n F a k = ((z * 2 ^ K + r : Nat) : Int) ∧ r < 2 ^ K ∧ z < n ∧ (F z).ow ≠ -1 ∧ z * 2 ^ K + r < nw := by
  obtain ⟨y, r, m, x, hv, h2, hp, hy, ho, hl, hm, hx, h6, h7⟩ := stp_on h
  obtain ⟨z, q, e1, h1, hz, hoz, hlt, _⟩ := addr_in hv hy ho hl h6
  exact ⟨z, q, h7.trans e1, h1, hz, by rw [hoz]; exact ho, hlt⟩
theorem stp_nat (h : stpE K nw wd n F a k = 0) : ∃ P : Nat, stpV K nw wd n F a k = P ∧ P < nw := by
  obtain ⟨z, r, e, _, _, _, hlt⟩ := stp_word h
  exact ⟨_, e, hlt⟩
theorem stp_inj {j : Int} (h : stpE K nw wd n F a k = 0) (hj : stpE K nw wd n F a j = 0) (e : stpV K nw wd n F a k = stpV K nw wd n F a j) : k = j := by
  obtain ⟨y, r, m, x, hv, h2, hp, hy, ho, hl, hm, rfl, h6, h7⟩ := stp_on h
  obtain ⟨y', r', m', x', _, _, hp', _, _, hl', _, rfl, h6', h7'⟩ := stp_on hj
  have e1 : (y : Int) = y' := hp.1.symm.trans hp'.1
  have e2 : (r : Int) = r' := hp.2.1.symm.trans hp'.2.1
  obtain rfl : y = y' := by omega
  obtain rfl : r = r' := by omega
  obtain rfl := hl.uniq hl'
  have := addr_inj hv hy ho hl h6 h6' (by rw [← h7, ← h7', e])
  omega
/-- Step speaks of the words only as far as the space is valid. -/
theorem stp_words {wd' : Nat → Int} (hv : ValidP K nw wd n F) (hv' : ValidP K nw wd' n F) (a k : Int) : stpE K nw wd' n F a k = stpE K nw wd n F a k ∧ stpV K nw wd' n F a k = stpV K nw wd n F a k := by
  have e : stpE K nw wd' n F a k = stpE K nw wd n F a k := by unfold stpE; rw [validB_yes hv, validB_yes hv']
  refine ⟨e, ?_⟩
  unfold stpV
  rw [e]
theorem valid_write {wd' : Nat → Int} {z r : Nat} (hv : ValidP K nw wd n F) (ho : (F z).ow ≠ -1) (hr : r < 2 ^ K) (v : Int) (hz : Zr (fun j => if j = z * 2 ^ K + r then v else wd j) K n F) : ValidP K nw (fun j => if j = z * 2 ^ K + r then v else wd j) n F :=
  ValidP.mk_ hv.1 hv.2.1 hv.2.2.1 hv.fv (by rw [Int.toNat_natCast]; exact hz)
end

/-! What objects are. -/
section
variable (s : Int) (nw : Nat) (wd : Nat → Int) (n : Nat) (F : Nat → Fr)
noncomputable def shpE (a : Int) : Int :=
  if stpE s nw wd n F a 0 ≠ 0 then stpE s nw wd n F a 0
  else if Hd.decE (wd a.toNat) ≠ 0 ∨ Hd.isF (wd a.toNat) = true then 12
  else stpE s nw wd n F a (Hd.decR (wd a.toNat) + Hd.decD (wd a.toNat))
noncomputable def shpR (a : Int) : Int := if shpE s nw wd n F a = 0 then Hd.decR (wd a.toNat) else 0
noncomputable def shpD (a : Int) : Int := if shpE s nw wd n F a = 0 then Hd.decD (wd a.toNat) else 0
/-- Where a field stands: t tells whether it is a reference. -/
noncomputable def fldN (a : Int) (t : Bool) : Int := if t then shpR s nw wd n F a else shpD s nw wd n F a
noncomputable def fldK (a : Int) (i : Int) (t : Bool) : Int := if t then 1 + i else 1 + shpR s nw wd n F a + i
noncomputable def plcE (a i : Int) (t : Bool) : Int := if shpE s nw wd n F a ≠ 0 then shpE s nw wd n F a else if i < 0 ∨ fldN s nw wd n F a t ≤ i then 17 else 0
noncomputable def plcV (a i : Int) (t : Bool) : Int := if plcE s nw wd n F a i t = 0 then stpV s nw wd n F a (fldK s nw wd n F a i t) else 0
noncomputable def getV (a i : Int) (t : Bool) : Int := if plcE s nw wd n F a i t = 0 then wd (plcV s nw wd n F a i t).toNat else 0
noncomputable def setW (a i : Int) (t : Bool) (v : Int) : Nat → Int := fun j => if j = (plcV s nw wd n F a i t).toNat then v else wd j
noncomputable def sltL (a : Int) : List Nat := (List.range (shpR s nw wd n F a).toNat).map fun (i : Nat) => (stpV s nw wd n F a (1 + (i : Int))).toNat
/-- What Init answers, and the words behind the first t + 1 of its stores. -/
noncomputable def iniE (a r d : Int) : Int := if validB s nw wd n F = false then 1 else if Hd.liveE r d ≠ 0 then Hd.liveE r d else stpE s nw wd n F a (r + d)
noncomputable def iniW (a lv : Int) : Nat → Nat → Int
  | 0 => fun j => if j = a.toNat then lv else wd j
  | t + 1 => fun j => if j = (stpV s nw wd n F a ((t + 1 : Nat) : Int)).toNat then 0 else iniW a lv t j
end

section
variable {s : Int} {nw : Nat} {wd : Nat → Int} {n : Nat} {F : Nat → Fr} {a i : Int} {t : Bool}
theorem shp_bad (h : validB s nw wd n F = false) : shpE s nw wd n F a = 1 := by
  have := (stp_bad (a := a) (k := 0) h).1
  unfold shpE; rw [this]; rfl
theorem shp_step (h : stpE s nw wd n F a 0 ≠ 0) : shpE s nw wd n F a = stpE s nw wd n F a 0 ∧ shpR s nw wd n F a = 0 ∧ shpD s nw wd n F a = 0 := by
  have h1 : shpE s nw wd n F a = stpE s nw wd n F a 0 := by unfold shpE; rw [if_pos h]
  exact ⟨h1, by unfold shpR; rw [h1, if_neg h], by unfold shpD; rw [h1, if_neg h]⟩
theorem shp_head (h : stpE s nw wd n F a 0 = 0) (h2 : Hd.decE (wd a.toNat) ≠ 0 ∨ Hd.isF (wd a.toNat) = true) : shpE s nw wd n F a = 12 ∧ shpR s nw wd n F a = 0 ∧ shpD s nw wd n F a = 0 := by
  have h1 : shpE s nw wd n F a = 12 := by unfold shpE; rw [if_neg (by simp [h]), if_pos h2]
  exact ⟨h1, by unfold shpR; rw [h1]; rfl, by unfold shpD; rw [h1]; rfl⟩
theorem shp_end (h : stpE s nw wd n F a 0 = 0) (h2 : Hd.decE (wd a.toNat) = 0) (h3 : Hd.isF (wd a.toNat) = false) (h4 : stpE s nw wd n F a (Hd.decR (wd a.toNat) + Hd.decD (wd a.toNat)) = 2) : shpE s nw wd n F a = 2 ∧ shpR s nw wd n F a = 0 ∧ shpD s nw wd n F a = 0 := by
  have h1 : shpE s nw wd n F a = 2 := by unfold shpE; rw [if_neg (by simp [h]), if_neg (by simp [h2, h3]), h4]
  exact ⟨h1, by unfold shpR; rw [h1]; rfl, by unfold shpD; rw [h1]; rfl⟩
theorem shp_ok (h : stpE s nw wd n F a 0 = 0) (h2 : Hd.decE (wd a.toNat) = 0) (h3 : Hd.isF (wd a.toNat) = false) (h4 : stpE s nw wd n F a (Hd.decR (wd a.toNat) + Hd.decD (wd a.toNat)) = 0) :
    shpE s nw wd n F a = 0 ∧ shpR s nw wd n F a = Hd.decR (wd a.toNat) ∧ shpD s nw wd n F a = Hd.decD (wd a.toNat) := by
  have h1 : shpE s nw wd n F a = 0 := by unfold shpE; rw [if_neg (by simp [h]), if_neg (by simp [h2, h3]), h4]
  exact ⟨h1, by unfold shpR; rw [if_pos h1], by unfold shpD; rw [if_pos h1]⟩
theorem shp_yes (h : shpE s nw wd n F a = 0) : stpE s nw wd n F a 0 = 0 ∧ Hd.decE (wd a.toNat) = 0 ∧ Hd.isF (wd a.toNat) = false ∧ stpE s nw wd n F a (Hd.decR (wd a.toNat) + Hd.decD (wd a.toNat)) = 0 ∧ shpR s nw wd n F a = Hd.decR (wd a.toNat) ∧ shpD s nw wd n F a = Hd.decD (wd a.toNat) := by
  have h0 := h
  unfold shpE at h
  by_cases h1 : stpE s nw wd n F a 0 ≠ 0
  · rw [if_pos h1] at h; exact absurd h h1
  · rw [if_neg h1] at h
    by_cases h2 : Hd.decE (wd a.toNat) ≠ 0 ∨ Hd.isF (wd a.toNat) = true
    · rw [if_pos h2] at h; exact absurd h (by decide)
    · rw [if_neg h2] at h
      refine ⟨Decidable.not_not.1 h1, Decidable.not_not.1 (fun e => h2 (.inl e)), ?_, h, by unfold shpR; rw [if_pos h0], by unfold shpD; rw [if_pos h0]⟩
      cases e : Hd.isF (wd a.toNat)
      · rfl
      · exact absurd (.inr e) h2
/-- The numbers of fields. -/
theorem shp_range (hu : U64w nw wd) : 0 ≤ shpR s nw wd n F a ∧ shpR s nw wd n F a ≤ 15 ∧ 0 ≤ shpD s nw wd n F a ∧ shpD s nw wd n F a ≤ 32 := by
  by_cases h : shpE s nw wd n F a = 0
  · obtain ⟨h1, _, _, _, e1, e2⟩ := shp_yes h
    have h2 := adB_yes (stp_iff.1 h1).2.1
    have := Hd.dec_range (wd a.toNat) (hu a.toNat (by omega)).1
    rw [e1, e2]; omega
  · unfold shpR shpD; rw [if_neg h, if_neg h]; decide
theorem plc_bad (h : shpE s nw wd n F a ≠ 0) : plcE s nw wd n F a i t = shpE s nw wd n F a ∧ plcV s nw wd n F a i t = 0 := by
  have h1 : plcE s nw wd n F a i t = shpE s nw wd n F a := by unfold plcE; rw [if_pos h]
  exact ⟨h1, by unfold plcV; rw [h1, if_neg h]⟩
theorem plc_out (h : shpE s nw wd n F a = 0) (h2 : i < 0 ∨ fldN s nw wd n F a t ≤ i) : plcE s nw wd n F a i t = 17 ∧ plcV s nw wd n F a i t = 0 := by
  have h1 : plcE s nw wd n F a i t = 17 := by unfold plcE; rw [if_neg (by simp [h]), if_pos h2]
  exact ⟨h1, by unfold plcV; rw [h1]; rfl⟩
theorem plc_ok (h : shpE s nw wd n F a = 0) (h2 : 0 ≤ i) (h3 : i < fldN s nw wd n F a t) : plcE s nw wd n F a i t = 0 ∧ plcV s nw wd n F a i t = stpV s nw wd n F a (fldK s nw wd n F a i t) := by
  have h1 : plcE s nw wd n F a i t = 0 := by unfold plcE; rw [if_neg (by simp [h]), if_neg (by omega)]
  exact ⟨h1, by unfold plcV; rw [if_pos h1]⟩
theorem plc_yes (h : plcE s nw wd n F a i t = 0) : shpE s nw wd n F a = 0 ∧ 0 ≤ i ∧ i < fldN s nw wd n F a t := by
  unfold plcE at h
  by_cases h1 : shpE s nw wd n F a ≠ 0
  · rw [if_pos h1] at h; exact absurd h h1
  · rw [if_neg h1] at h
    by_cases h2 : i < 0 ∨ fldN s nw wd n F a t ≤ i
    · rw [if_pos h2] at h; exact absurd h (by decide)
    · exact ⟨Decidable.not_not.1 h1, by omega, by omega⟩
/-- Step leads to each field of an object. -/
theorem fld_step (hu : U64w nw wd) (h : shpE s nw wd n F a = 0) (h2 : 0 ≤ i) (h3 : i < fldN s nw wd n F a t) : stpE s nw wd n F a (fldK s nw wd n F a i t) = 0 ∧ 1 ≤ fldK s nw wd n F a i t ∧ fldK s nw wd n F a i t ≤ shpR s nw wd n F a + shpD s nw wd n F a ∧ shpR s nw wd n F a + shpD s nw wd n F a ≤ 47 := by
  obtain ⟨_, _, _, h4, e1, e2⟩ := shp_yes h
  have hr := shp_range (s := s) (n := n) (F := F) (a := a) hu
  rw [← e1, ← e2] at h4
  have h5 : 1 ≤ fldK s nw wd n F a i t ∧ fldK s nw wd n F a i t ≤ shpR s nw wd n F a + shpD s nw wd n F a := by
    unfold fldN at h3
    unfold fldK
    cases t
    · simp at h3 ⊢; omega
    · simp at h3 ⊢; omega
  exact ⟨stp_less h4 (by omega) h5.2, h5.1, h5.2, by omega⟩
theorem ini_bad {r d : Int} (h : validB s nw wd n F = false) : iniE s nw wd n F a r d = 1 := by unfold iniE; rw [if_pos h]
theorem ini_size {r d : Int} (h : validB s nw wd n F = true) (h2 : ¬ (0 ≤ r ∧ r ≤ 15 ∧ 0 ≤ d ∧ d ≤ 32)) : iniE s nw wd n F a r d = 13 := by
  unfold iniE; rw [if_neg (by simp [h]), (Hd.live_out h2).2]; rfl
theorem ini_in {r d : Int} (h : validB s nw wd n F = true) (h2 : 0 ≤ r ∧ r ≤ 15 ∧ 0 ≤ d ∧ d ≤ 32) : iniE s nw wd n F a r d = stpE s nw wd n F a (r + d) := by
  unfold iniE; rw [if_neg (by simp [h]), (Hd.live_in h2).2, if_neg (by decide)]
theorem iniW_u64 {lv : Int} (hu : U64w nw wd) (h0 : 0 ≤ lv) (h1 : lv < 18446744073709551616) : ∀ t, U64w nw (iniW s nw wd n F a lv t)
  | 0 => fun j hj => by
    unfold iniW
    by_cases e : j = a.toNat
    · rw [if_pos e]; exact ⟨h0, h1⟩
    · rw [if_neg e]; exact hu j hj
  | t + 1 => fun j hj => by
    unfold iniW
    by_cases e : j = (stpV s nw wd n F a ((t + 1 : Nat) : Int)).toNat
    · rw [if_pos e]; decide
    · rw [if_neg e]; exact iniW_u64 hu h0 h1 t j hj
theorem sltL_length : (sltL s nw wd n F a).length = (shpR s nw wd n F a).toNat := by simp [sltL]
end
end Go.Proofs.Ytjkbjbikofindaa

namespace Go.Proofs.Ytjkbjbikofindaa
open Go.RowKit
set_option maxRecDepth 100000
set_option linter.unusedVariables false

theorem Zr.write {wd : Nat → Int} {k n : Nat} {F : Nat → Fr} (h : Zr wd k n F) {y r p : Nat} (ho : (F y).ow ≠ -1) (hr : r < 2 ^ k) (hp : p = y * 2 ^ k + r) (v : Int) : Zr (fun j => if j = p then v else wd j) k n F := by
  intro f hf he
  have h1 := h f hf he
  refine decide_eq_true fun a ha => ?_
  have h2 : wd (f * 2 ^ k + a) = 0 := (of_decide_eq_true h1) a ha
  have hne : f * 2 ^ k + a ≠ p := by
    intro e
    have e3 : f = y := (parts_uniq ha hr (by rw [e, hp])).1
    rw [← e3, he] at ho
    exact ho rfl
  show (if f * 2 ^ k + a = p then v else wd (f * 2 ^ k + a)) = 0
  rw [if_neg hne]
  exact h2

/-- A table stays where words alone have turned. -/
theorem OwnT.beside {a w : World} {g x base base' n c n' c' : Nat} {f : Nat → Int} {F : Nat → Fr} (h : OwnT a base (some ⟨g, 0, none⟩) n c F) (ht : Own a base' (some ⟨x, 0, none⟩) n' c' f) (hg : a.grownBy w (some x)) : OwnT w base (some ⟨g, 0, none⟩) n c F ∧ g ≠ x := by
  obtain ⟨h1, h2, h3⟩ := h
  rcases h3 with ⟨h3, _⟩ | ⟨g0, cur, hA, hb, hh, hs⟩
  · cases h3
  · injection hA with hA
    injection hA with hA
    subst hA
    have hne : g ≠ x := by
      intro e
      obtain ⟨_, _, t | ⟨g', cur', hA', _, hh', _⟩⟩ := ht
      · cases t.1
      · injection hA' with hA'
        injection hA' with hA'
        subst hA'
        rw [e] at hh
        rw [hh] at hh'
        injection hh' with hh'
        injection hh' with _ ht
        exact absurd ht (by decide)
    exact ⟨⟨h1, h2, .inr ⟨g, cur, rfl, hb, (hg.block g (blk_lt hh) (fun e => hne (by injection e))).trans hh, hs⟩⟩, hne⟩
theorem Own.where_ {w : World} {base n c : Nat} {A : Option Addr} {f : Nat → Int} (h : Own w base A n c f) (hn : 0 < n) : ∃ x, A = some ⟨x, 0, none⟩ ∧ base ≤ x ∧ x < w.heap.size := by
  obtain ⟨h1, _, h | ⟨g, cur, hA, hb, hg, _⟩⟩ := h
  · omega
  · exact ⟨g, hA, hb, blk_lt hg⟩

/-- Init's words leave a valid space valid. -/
theorem iniW_zr {K nw n : Nat} {wd : Nat → Int} {F : Nat → Fr} {a lv : Int} (hv : ValidP K nw wd n F) : ∀ t : Nat, stpE K nw wd n F a t = 0 → Zr (iniW K nw wd n F a lv t) K n F
  | 0, h => by
    have h0 : stpE K nw wd n F a 0 = 0 := h
    obtain ⟨z, r, e, hr, hz, ho, _⟩ := stp_word h0
    rw [stp_self h0] at e
    have hzr := hv.zr
    rw [Int.toNat_natCast] at hzr
    have hw := hzr.write ho hr (p := a.toNat) (by omega) lv
    exact hw
  | t + 1, h => by
    obtain ⟨z, r, e, hr, hz, ho, _⟩ := stp_word h
    exact (iniW_zr hv t (stp_less h (by omega) (by omega))).write ho hr (p := (stpV K nw wd n F a ((t + 1 : Nat) : Int)).toNat) (by omega) 0
theorem iniW_valid {K nw n : Nat} {wd : Nat → Int} {F : Nat → Fr} {a lv : Int} (hv : ValidP K nw wd n F) (t : Nat) (h : stpE K nw wd n F a t = 0) : ValidP K nw (iniW K nw wd n F a lv t) n F :=
  ValidP.mk_ hv.1 hv.2.1 hv.2.2.1 hv.fv (by rw [Int.toNat_natCast]; exact iniW_zr hv t h)

/-- What Make does. -/
def MkOut (K nw n : Nat) (F : Nat → Fr) (wd : Nat → Int) (a r d : Int) (x base c : Nat) (w : World) (e : Ending) (w' : World) : Prop :=
  (∃ y : Int, iniE K nw wd n F a r d = y ∧ y ≠ 0 ∧ e = .returned (.int .i64 y) ∧ Below w.heap.size w w') ∨
  (iniE K nw wd n F a r d = 0 ∧ e = .returned (.int .i64 0) ∧ Own w' base (some ⟨x, 0, none⟩) nw c (iniW K nw wd n F a (Hd.liveV r d) (r + d).toNat) ∧ w.grownBy w' (some x))

/-- What holds while Make empties the fields. -/
def MkAt (K nw n : Nat) (F : Nat → Fr) (wd : Nat → Int) (a lv : Int) (R x g base c c' : Nat) (w : World) (kk : Value) (wr : World) : Prop :=
  ∃ t : Nat, t ≤ R ∧ kk = .int .i64 ((t + 1 : Nat) : Int) ∧ Own wr base (some ⟨x, 0, none⟩) nw c (iniW K nw wd n F a lv t) ∧ OwnT wr base (some ⟨g, 0, none⟩) n c' F ∧
    Blk wr w.heap.size 25 #[.int .i64 K, .slice (some ⟨x, 0, none⟩) nw c, .slice (some ⟨g, 0, none⟩) n c'] ∧ w.grownBy wr (some x)

set_option maxHeartbeats 4000000 in
theorem refMake_any (K nw c n c' x g base : Nat) (wd : Nat → Int) (F : Nat → Fr) (a r d : Int) (w : World) (hO : Own w base (some ⟨x, 0, none⟩) nw c wd) (hT : OwnT w base (some ⟨g, 0, none⟩) n c' F) (hv : ValidP K nw wd n F)
    (r0 : -9223372036854775808 ≤ r) (r1 : r ≤ 9223372036854775807) (d0 : -9223372036854775808 ≤ d) (d1 : d ≤ 9223372036854775807) :
    Calls Try.prog 65 #[.agg #[.int .i64 K, .slice (some ⟨x, 0, none⟩) nw c, .slice (some ⟨g, 0, none⟩) n c'], .int .i64 a, .int .i64 r, .int .i64 d] w (MkOut K nw n F wd a r d x base c w) := by
  have HO := Lib.hid hO
  have HT := Lib.hid hT
  have HV := Lib.hid hv
  have HVB := Lib.hid (validB_yes hv)
  obtain ⟨_, n64⟩ := nfB_yes hv.2.1
  obtain ⟨_, k8⟩ := shB_yes hv.1
  have hnw : nw ≤ 16384 := by
    have h := hv.2.2.1
    rw [Int.toNat_natCast] at h
    rw [h]; exact prod_le (by omega) (by omega)
  have xz : x < w.heap.size := by
    obtain ⟨_, _, h | ⟨g', cur, hA, _, hg, _⟩⟩ := hO
    · cases h.1
    · injection hA with hA; injection hA with hA; subst hA; exact blk_lt hg
  have gz : g < w.heap.size := hT.bounds.2
  obtain ⟨U, hU⟩ : ∃ U, U = w.alloc (.cells #[.int .i64 K, .slice (some ⟨x, 0, none⟩) nw c, .slice (some ⟨g, 0, none⟩) n c'] 25) := ⟨_, rfl⟩
  have BU : Blk U w.heap.size 25 #[.int .i64 K, .slice (some ⟨x, 0, none⟩) nw c, .slice (some ⟨g, 0, none⟩) n c'] := by rw [hU]; exact Blk.new _ _ _
  have HBU : Hid (Below w.heap.size w U) := by rw [hU]; exact (Below.refl _ _).alloc (Nat.le_refl _) _
  have HU := Lib.hid hU
  have c1 := Hd.refLive_any r d r0 r1 d0 d1
  clear hO hT hv hU
  by_cases hin : 0 ≤ r ∧ r ≤ 15 ∧ 0 ≤ d ∧ d ≤ 32
  · have HE := Lib.hid (ini_in (s := K) (nw := nw) (wd := wd) (n := n) (F := F) (a := a) HVB.out hin)
    rw [(Hd.live_in hin).2] at c1
    obtain ⟨lv, hlv⟩ : ∃ lv, lv = Hd.liveV r d := ⟨_, rfl⟩
    rw [← hlv] at c1
    have HLV := Lib.hid hlv
    obtain ⟨R, rfl⟩ := Int.eq_ofNat_of_zero_le hin.1
    obtain ⟨D, rfl⟩ := Int.eq_ofNat_of_zero_le hin.2.2.1
    have hs : (R : Int) + D = ((R + D : Nat) : Int) := by omega
    have hRD : R + D ≤ 47 := by omega
    have gp := refGo5_any K (some ⟨x, 0, none⟩) _ nw c n c' wd F a (R + D : Nat) U (HT.out.below HBU.out).tab HV.out (by omega) (by omega)
    by_cases he : stpE K nw wd n F a (R + D : Nat) = 0
    · obtain ⟨P, hP, hlt⟩ := stp_nat (stp_less he (j := 0) (by omega) (by omega))
      rw [stp_self (stp_less he (j := 0) (by omega) (by omega))] at hP
      subst hP
      rw [he] at gp
      rw [← hs] at gp
      have HST := Lib.hid he
      have HSS := Lib.hid hs
      clear he hs hin hlv
      go_enter Try.func65, Try.ntmps65
      go_wp2_with fail
      refine (c1 _).mono ?_
      rintro e w' ⟨rfl, rfl⟩
      go_wp2_with fail
      rw [← HU.out]
      refine gp.mono ?_
      rintro e U1 ⟨rfl, hb1⟩
      have BU1 := BU.next hb1
      have HO1 : Hid (Own U1 base (some ⟨x, 0, none⟩) nw c wd) := (HO.out.below HBU.out).below hb1
      have HT1 : Hid (OwnT U1 base (some ⟨g, 0, none⟩) n c' F) := (HT.out.below HBU.out).below hb1
      have HB1 : Hid (Below w.heap.size w U1) := below_next HBU.out (Nat.le_refl _) hb1
      clear gp hb1
      obtain ⟨gx, hgx, _, gx2, wc0, wf0, hnew⟩ := HO1.out.spot P hlt lv
      injection hgx with hgx
      injection hgx with hgx
      subst hgx
      have HNEW := Lib.hid hnew
      have HT2 : Hid (OwnT (U1.setCell ⟨x, P, none⟩ (.int .u64 lv)) base (some ⟨g, 0, none⟩) n c' F) := (HT1.out.beside HO1.out (turn_set (turn_below (a := U1) (w := U1) (Below.refl _ _)) P (.int .u64 lv))).1
      have BU2 := BU1.far (p := ⟨x, P, none⟩) (show w.heap.size ≠ x by omega) (.int .u64 lv)
      have ST : Hid (MkAt K nw n F wd P lv (R + D) x g base c c' w (.int .i64 1) (U1.setCell ⟨x, P, none⟩ (.int .u64 lv))) :=
        ⟨0, by omega, rfl, HNEW.out, HT2.out, BU2, turn_set (turn_below HB1.out) _ _⟩
      have p0 := BU1.cell 0
      have p1 := BU1.cell 1
      have p2 := BU1.cell 2
      simp at p0 p1 p2
      have pi : 0 ≤ (P : Int) ∧ (P : Int) < nw := by omega
      clear hnew
      go_wp2
      clear p0 p1 p2 wc0 wf0 BU BU1 BU2
      go_loopw [13, 14, 15] (fun kk _ _ wr => MkAt K nw n F wd P lv (R + D) x g base c c' w kk wr) (fun kk _ _ _ => R + D + 1 - (intOf kk).toNat)
      case atStart => exact ST.out
      case round =>
        obtain ⟨t, ht, rfl, hO', hT', hB', hg'⟩ := hrel
        have HOO := Lib.hid hO'
        have HTT := Lib.hid hT'
        have HGG := Lib.hid hg'
        have p0 := hB'.cell 0
        have p1 := hB'.cell 1
        have p2 := hB'.cell 2
        simp at p0 p1 p2
        clear hO' hT' hg'
        by_cases hlt2 : t < R + D
        · have hle : ((t + 1 : Nat) : Int) ≤ (R : Int) + D := by omega
          go_wp2_with fail
          have gp := refGo5_any K (some ⟨x, 0, none⟩) _ nw c n c' wd F P (t + 1 : Nat) wr HTT.out.tab HV.out (by omega) (by omega)
          have hst : stpE K nw wd n F P (t + 1 : Nat) = 0 := stp_less HST.out (by omega) (by omega)
          rw [hst] at gp
          obtain ⟨P2, hP2, hltp⟩ := stp_nat hst
          have HP2 := Lib.hid hP2
          rw [hP2] at gp
          refine gp.mono ?_
          rintro e W3 ⟨rfl, hb3⟩
          have HO3 : Hid (Own W3 base (some ⟨x, 0, none⟩) nw c (iniW K nw wd n F P lv t)) := HOO.out.below hb3
          have HT3 : Hid (OwnT W3 base (some ⟨g, 0, none⟩) n c' F) := HTT.out.below hb3
          have HG3 : Hid (w.grownBy W3 (some x)) := turn_next HGG.out hb3
          have B3 := hB'.next hb3
          obtain ⟨gx, hgx, _, gx2, wc0, wf0, hnew⟩ := HO3.out.spot P2 hltp 0
          injection hgx with hgx
          injection hgx with hgx
          subst hgx
          have q0 := B3.cell 0
          have q1 := B3.cell 1
          have qq := B3.cell 2
          simp at q0 q1 qq
          have pi2 : 0 ≤ (P2 : Int) ∧ (P2 : Int) < nw := by omega
          have hnw2 : (fun j => if j = P2 then (0 : Int) else iniW K nw wd n F P lv t j) = iniW K nw wd n F P lv (t + 1) := by
            funext j
            show _ = (if j = (stpV K nw wd n F P ((t + 1 : Nat) : Int)).toNat then (0 : Int) else iniW K nw wd n F P lv t j)
            rw [HP2.out, Int.toNat_natCast]
          rw [hnw2] at hnew
          have HN : Hid (MkAt K nw n F wd P lv (R + D) x g base c c' w (.int .i64 ((t + 1 + 1 : Nat) : Int)) (W3.setCell ⟨x, P2, none⟩ (.int .u64 0))) :=
            ⟨t + 1, by omega, rfl, hnew, (HT3.out.beside HO3.out (turn_set (turn_below (a := W3) (w := W3) (Below.refl _ _)) P2 (.int .u64 0))).1, B3.far (p := ⟨x, P2, none⟩) (show w.heap.size ≠ x by omega) _, turn_set HG3.out _ _⟩
          clear gp hst hP2 hb3 hnew hnw2 p0 p1 p2
          go_wp2
          go_roundw
          case rel => exact (by simpa using HN.out)
          case measure => simp [intOf]; omega
        · obtain rfl : t = R + D := by omega
          have hle : ¬ ((R + D + 1 : Nat) : Int) ≤ (R : Int) + D := by omega
          go_wp2
          go_ret
          refine .inr ⟨HE.out.trans (by rw [HSS.out]; exact HST.out), rfl, ?_, HGG.out⟩
          rw [← HLV.out, HSS.out, Int.toNat_natCast]
          exact HOO.out
    · have hne : (stpE K nw wd n F a (R + D : Nat) != 0) = true := by simpa using he
      rw [← hs] at gp hne
      have HNE := Lib.hid (show iniE K nw wd n F a R D ≠ 0 by rw [HE.out, hs]; exact he)
      have HEE := Lib.hid HE.out
      obtain ⟨y, hy⟩ : ∃ y, y = stpE K nw wd n F a ((R : Int) + D) := ⟨_, rfl⟩
      rw [← hy] at gp hne
      have HY := Lib.hid hy
      clear he hs hin hlv hy
      go_enter Try.func65, Try.ntmps65
      go_wp2_with fail
      refine (c1 _).mono ?_
      rintro e w' ⟨rfl, rfl⟩
      go_wp2_with fail
      rw [← HU.out]
      refine gp.mono ?_
      rintro e U1 ⟨rfl, hb1⟩
      go_wp2
      go_ret
      exact .inl ⟨y, HEE.out.trans HY.out.symm, by rw [HY.out, ← HEE.out]; exact HNE.out, rfl, below_next HBU.out (Nat.le_refl _) hb1⟩
  · have HE := Lib.hid (ini_size (s := K) (nw := nw) (wd := wd) (n := n) (F := F) (a := a) HVB.out hin)
    rw [(Hd.live_out hin).1, (Hd.live_out hin).2] at c1
    clear hin
    go_enter Try.func65, Try.ntmps65
    go_wp2_with fail
    refine (c1 _).mono ?_
    rintro e w' ⟨rfl, rfl⟩
    go_wp2_with fail
    rw [← HU.out]
    go_ret
    exact .inl ⟨13, HE.out, by decide, rfl, HBU.out⟩

/-- What Init does, here and in package object. -/
def IniOut (s : Int) (nw n : Nat) (wd : Nat → Int) (F : Nat → Fr) (a r d : Int) (w : World) (e : Ending) (w' : World) : Prop :=
  (∃ y : Int, iniE s nw wd n F a r d = y ∧ y ≠ 0 ∧ e = .returned (.tuple #[.agg #[.int .i64 0, .slice none 0 0, .slice none 0 0], .int .i64 y]) ∧ Below w.heap.size w w') ∨
  (iniE s nw wd n F a r d = 0 ∧ ∃ (A : Option Addr) (c g c' : Nat), e = .returned (.tuple #[.agg #[.int .i64 s, .slice A nw c, .slice (some ⟨g, 0, none⟩) n c'], .int .i64 0]) ∧
    Own w' w.heap.size A nw c (iniW s nw wd n F a (Hd.liveV r d) (r + d).toNat) ∧ OwnT w' w.heap.size (some ⟨g, 0, none⟩) n c' F ∧ Below w.heap.size w w')

set_option maxHeartbeats 4000000 in
theorem refInit_any (s : Int) (A A' : Option Addr) (nw c n c' : Nat) (wd : Nat → Int) (F : Nat → Fr) (a r d : Int) (w : World) (hA : Arr w w.heap.size A nw c wd) (hT : Tab w w.heap.size A' n c' F)
    (r0 : -9223372036854775808 ≤ r) (r1 : r ≤ 9223372036854775807) (d0 : -9223372036854775808 ≤ d) (d1 : d ≤ 9223372036854775807) :
    Calls Try.prog 38 #[.agg #[.int .i64 s, .slice A nw c, .slice A' n c'], .int .i64 a, .int .i64 r, .int .i64 d] w (IniOut s nw n wd F a r d w) := by
  have HA := Lib.hid hA
  have HT := Lib.hid hT
  obtain ⟨U, hU⟩ : ∃ U, U = (w.alloc (.cells #[.int .i64 s, .slice A nw c, .slice A' n c'] 25)).alloc (.cells #[.int .i64 0, .slice none 0 0, .slice none 0 0] 25) := ⟨_, rfl⟩
  have BS : Blk U w.heap.size 25 #[.int .i64 s, .slice A nw c, .slice A' n c'] := by rw [hU]; exact (Blk.new _ _ _).alloc _
  have BR : Blk U (w.heap.size + 1) 25 #[.int .i64 0, .slice none 0 0, .slice none 0 0] := by rw [hU]; exact Blk.newAt _ _ _ _ (by simp)
  have HBU : Hid (Below w.heap.size w U) := by rw [hU]; exact ((Below.refl _ _).alloc (Nat.le_refl _) _).alloc (by simp) _
  have HU := Lib.hid hU
  clear hA hT hU
  have p0 := BS.cell 0
  have p1 := BS.cell 1
  have p2 := BS.cell 2
  have zS := BS.lt
  simp at p0 p1 p2
  cases hv : validB s nw wd n F with
  | false =>
    have HV := Lib.hid hv
    clear hv
    go_enter Try.func38, Try.ntmps38
    go_wp2_with fail
    rw [← HU.out]
    refine (refValid_any s A A' nw c n c' wd F U (HA.out.next HBU.out) (HT.out.next HBU.out)).mono ?_
    rintro e U1 ⟨rfl, hb1⟩
    rw [HV.out]
    have BR1 := BR.next hb1
    have HB1 : Hid (Below w.heap.size w U1) := below_next HBU.out (Nat.le_refl _) hb1
    have r0' := BR1.cell 0
    have r1' := BR1.cell 1
    have r2' := BR1.cell 2
    have rf0 := BR1.frozen 0
    have rf1 := BR1.frozen 1
    have rf2 := BR1.frozen 2
    have zR := BR1.lt
    simp at r0' r1' r2'
    clear hb1 p0 p1 p2 zS
    go_wp2
    refine bodyPost_ret (v := .tuple #[.agg #[.int .i64 0, .slice none 0 0, .slice none 0 0], .int .i64 1]) (by simp [results, Try.results38, go_sem, r0', r1', r2']) rfl (.inl ⟨1, ini_bad HV.out, by decide, rfl, below_put3 HB1.out (by omega) _ _ _⟩)
  | true =>
    have hvp := validB_of hv
    obtain ⟨s0, s8⟩ := shB_yes hvp.1
    obtain ⟨K, rfl⟩ := Int.eq_ofNat_of_zero_le (show 0 ≤ s by omega)
    obtain ⟨n2, n64⟩ := nfB_yes hvp.2.1
    have hnw : nw = n * 2 ^ K := by have := hvp.2.2.1; rw [Int.toNat_natCast] at this; exact this
    have hpl := prod_le (show n ≤ 64 by omega) (show K ≤ 8 by omega)
    rw [← hnw] at hpl
    have hnw0 : 0 < nw := by rw [hnw]; exact Nat.mul_pos (by omega) (Nat.two_pow_pos K)
    have HVP := Lib.hid hvp
    have HV := Lib.hid hv
    clear hv hvp hnw
    go_enter Try.func38, Try.ntmps38
    go_wp2_with fail
    rw [← HU.out]
    refine (refValid_any K A A' nw c n c' wd F U (HA.out.next HBU.out) (HT.out.next HBU.out)).mono ?_
    rintro e U1 ⟨rfl, hb1⟩
    rw [HV.out]
    have BS1 := BS.next hb1
    have BR1 := BR.next hb1
    have HB1 : Hid (Below w.heap.size w U1) := below_next HBU.out (Nat.le_refl _) hb1
    clear p0 p1 p2 zS
    have p0 := BS1.cell 0
    have p1 := BS1.cell 1
    have p2 := BS1.cell 2
    simp at p0 p1 p2
    clear hb1
    go_wp2_with fail
    refine (copy_any K A A' nw c n c' wd F U1 (HA.out.next HB1.out) (HT.out.next HB1.out) (by omega) (by omega) (by omega)).mono ?_
    rintro e U3 ⟨A1, c1, g, c2, rfl, ho, ht, hb3⟩
    obtain ⟨x, rfl, xb, xz⟩ := ho.where_ hnw0
    have hgb := ht.bounds
    have BR3 := BR1.next hb3
    have HB3 : Hid (Below w.heap.size w U3) := below_next HB1.out (Nat.le_refl _) hb3
    have z1 : w.heap.size + 1 < U1.heap.size := BR1.lt
    obtain ⟨X, hX⟩ : ∃ X, X = U3.alloc (.cells #[.int .i64 K, .slice (some ⟨x, 0, none⟩) nw c1, .slice (some ⟨g, 0, none⟩) n c2] 25) := ⟨_, rfl⟩
    have BO : Blk X U3.heap.size 25 #[.int .i64 K, .slice (some ⟨x, 0, none⟩) nw c1, .slice (some ⟨g, 0, none⟩) n c2] := by rw [hX]; exact Blk.new _ _ _
    have hbx : Below U3.heap.size U3 X := by rw [hX]; exact (Below.refl _ _).alloc (Nat.le_refl _) _
    have BR4 := BR3.next hbx
    have HB4 : Hid (Below w.heap.size w X) := below_next HB3.out (Nat.le_refl _) hbx
    have HO4 := Lib.hid (ho.below hbx)
    have HT4 := Lib.hid (ht.below hbx)
    have HX := Lib.hid hX
    clear ho ht hb3 p0 p1 p2 hX hbx BS1 BR3
    go_wp2_with fail
    rw [← HX.out]
    refine (refMake_any K nw c1 n c2 x g U1.heap.size wd F a r d X HO4.out HT4.out HVP.out r0 r1 d0 d1).mono ?_
    rintro e X5 (⟨y, hy, hy0, rfl, hb5⟩ | ⟨hy, rfl, ho5, hg5⟩)
    · have hne : (y != 0) = true := by simpa using hy0
      have HY := Lib.hid hy
      have HY0 := Lib.hid hy0
      have BR5 := BR4.next hb5
      have HB5 : Hid (Below w.heap.size w X5) := below_next HB4.out (Nat.le_refl _) hb5
      have r0' := BR5.cell 0
      have r1' := BR5.cell 1
      have r2' := BR5.cell 2
      have rf0 := BR5.frozen 0
      have rf1 := BR5.frozen 1
      have rf2 := BR5.frozen 2
      have zR := BR5.lt
      simp at r0' r1' r2'
      clear hy hy0 hb5
      go_wp2
      refine bodyPost_ret (v := .tuple #[.agg #[.int .i64 0, .slice none 0 0, .slice none 0 0], .int .i64 y]) (by simp [results, Try.results38, go_sem, r0', r1', r2']) rfl (.inl ⟨y, HY.out, HY0.out, rfl, below_put3 HB5.out (by omega) _ _ _⟩)
    · have HO5 := Lib.hid ho5
      have HT5 := Lib.hid (HT4.out.beside HO4.out hg5).1
      have BO5 := BO.turn hg5 (by omega)
      have BR5 := BR4.turn hg5 (by omega)
      have HB5 : Hid (Below w.heap.size w X5) := HB4.out.trans (turn_under hg5 (by omega) HB4.out.size)
      have HY := Lib.hid hy
      have o0 := BO5.cell 0
      have o1 := BO5.cell 1
      have o2 := BO5.cell 2
      have r0' := BR5.cell 0
      have r1' := BR5.cell 1
      have r2' := BR5.cell 2
      have rf0 := BR5.frozen 0
      have rf1 := BR5.frozen 1
      have rf2 := BR5.frozen 2
      have zR : w.heap.size + 1 < X5.heap.size := BR5.lt
      simp at o0 o1 o2 r0' r1' r2'
      clear ho5 hg5 hy BO BR4 BS BR
      go_wp2
      refine bodyPost_ret (v := .tuple #[.agg #[.int .i64 K, .slice (some ⟨x, 0, none⟩) nw c1, .slice (some ⟨g, 0, none⟩) n c2], .int .i64 0]) (by simp [results, Try.results38, go_sem, r0', r1', r2']) rfl (.inr ⟨HY.out, _, _, _, _, rfl, ?_, ?_, ?_⟩)
      · exact (HO5.out.put3 (by omega) _ _ _).lower (by omega)
      · exact (HT5.out.put3 (by omega) _ _ _).lower (by omega)
      · exact below_put3 HB5.out (by omega) _ _ _

/-! Init at a place of a chain. -/
theorem ChainP.len {F : Nat → Fr} {n m : Nat} {first last o st : Int} (h : ChainP F n first last m o st) (hv : FV F n) (hs : stB st o = true) (hm : 0 < m) : ∃ p : Nat, first = p ∧ p < n ∧ (F p).ow = o ∧ LenP F p m := by
  obtain ⟨p, hp, hpn, hpo, _⟩ := h.at_ hv hs hm
  simp only [iter] at hp
  subst hp
  refine ⟨p, rfl, hpn, hpo, h.end_ hm, fun i hi => ?_⟩
  obtain ⟨q, hq, _⟩ := h.at_ hv hs hi
  omega
def InitOf (k nw n : Nat) (F : Nat → Fr) (wd : Nat → Int) (first : Int) (W r d : Nat) (w : World) (e : Ending) (w' : World) : Prop :=
  ∃ (A : Option Addr) (c g c' : Nat) (wd' : Nat → Int), e = .returned (.tuple #[.agg #[.int .i64 k, .slice A nw c, .slice (some ⟨g, 0, none⟩) n c'], .int .i64 0]) ∧
    Own w' w.heap.size A nw c wd' ∧ OwnT w' w.heap.size (some ⟨g, 0, none⟩) n c' F ∧ ValidP k nw wd' n F ∧ Below w.heap.size w w' ∧ wd' = iniW k nw wd n F (addrP F k first W) (Hd.liveV r d) (r + d)

theorem init_pos (k nw n c c' : Nat) (A A' : Option Addr) (wd : Nat → Int) (F : Nat → Fr) (first last o st : Int) (m W r d : Nat) (w : World) (hA : Arr w w.heap.size A nw c wd) (hT : Tab w w.heap.size A' n c' F) (hv : ValidP k nw wd n F)
    (hc : ChainP F n first last m o st) (hs : stB st o = true) (hr : r ≤ 15) (hd : d ≤ 32) (hW : W + (1 + r + d) ≤ m * 2 ^ k) :
    Calls Try.prog 38 #[.agg #[.int .i64 k, .slice A nw c, .slice A' n c'], .int .i64 (addrP F k first W), .int .i64 r, .int .i64 d] w (InitOf k nw n F wd first W r d w) := by
  have hm : 0 < m := by
    rcases Nat.eq_zero_or_pos m with e | e
    · subst e; omega
    · exact e
  obtain ⟨p, rfl, hpn, hpo, hl⟩ := hc.len hv.fv hs hm
  have hs0 := (stB_yes hs).1
  have hst := (addr_stp hv hpn (by omega) hl (P := W) (Q := r + d) (by omega)).1
  have he : iniE k nw wd n F (addrP F k p W) r d = 0 := by
    rw [ini_in (validB_yes hv) (by omega)]
    exact hst
  refine (refInit_any k A A' nw c n c' wd F (addrP F k p W) r d w hA hT (by omega) (by omega) (by omega) (by omega)).mono ?_
  rintro e w' (⟨y, h1, h2, _⟩ | ⟨_, A1, c1, g, c2, rfl, h1, h2, h3⟩)
  · exact absurd (h1.symm.trans he) h2
  · have e1 : ((r : Int) + d).toNat = r + d := by omega
    rw [e1] at h1
    exact ⟨A1, c1, g, c2, _, rfl, h1, h2, iniW_valid hv (r + d) hst, h3, rfl⟩
end Go.Proofs.Ytjkbjbikofindaa
