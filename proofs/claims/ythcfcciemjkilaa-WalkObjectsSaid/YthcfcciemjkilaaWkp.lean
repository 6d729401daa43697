/-
  The objects of an increment, as a function of the space: what Objects answers. Plain mathematics; what Shape says of the next object.
-/
import Derived.Test.YthcfcciemjkilaaMSpace
import Derived.Test.YthcfcciemjkilaaMR8
namespace Go.Proofs.Ythcfcciemjkilaa
open Go.RowKit
set_option maxRecDepth 100000
set_option linter.unusedVariables false

section
variable (K : Nat) (wd : Nat → Int) (F : Nat → Fr) (p : Int)
/-- What is answered for the first W words of the chain from p. -/
def ObjsR (W : Nat) (l : List Nat) (e : Int) : Prop := ∃ j, Hds K wd F p j ∧ posN K wd F p j ≤ W ∧
  ((posN K wd F p j = W ∧ e = 0 ∧ l = lstN K wd F p j) ∨ (posN K wd F p j < W ∧ ¬ (hdB (wd (adrN K wd F p j)) ∧ posN K wd F p (j + 1) ≤ W) ∧ e = 12 ∧ l = []))
end
section
variable {K : Nat} {wd : Nat → Int} {F : Nat → Fr} {p : Int} {W : Nat} {l l' : List Nat} {e e' : Int}
theorem objsR_less {j j' : Nat} (h : j < j') (hh : Hds K wd F p j') (hp : posN K wd F p j' ≤ W) : posN K wd F p j < W ∧ hdB (wd (adrN K wd F p j)) ∧ posN K wd F p (j + 1) ≤ W := by
  have h1 := posN_lt (K := K) (wd := wd) (F := F) (p := p) j
  have h2 := posN_mono (K := K) (wd := wd) (F := F) (p := p) (show j + 1 ≤ j' from h)
  exact ⟨by omega, hh j h, by omega⟩
theorem ObjsR.uniq (h : ObjsR K wd F p W l e) (h' : ObjsR K wd F p W l' e') : l = l' ∧ e = e' := by
  obtain ⟨j, a1, a2, a3⟩ := h
  obtain ⟨j', b1, b2, b3⟩ := h'
  have hj : j = j' := by
    rcases Nat.lt_trichotomy j j' with h | h | h
    · obtain ⟨c1, c2⟩ := objsR_less h b1 b2
      rcases a3 with ⟨a3, _⟩ | ⟨_, a3, _⟩
      · omega
      · exact absurd c2 a3
    · exact h
    · obtain ⟨c1, c2⟩ := objsR_less h a1 a2
      rcases b3 with ⟨b3, _⟩ | ⟨_, b3, _⟩
      · omega
      · exact absurd c2 b3
  subst hj
  rcases a3 with ⟨a3, rfl, rfl⟩ | ⟨a3, _, rfl, rfl⟩ <;> rcases b3 with ⟨b3, rfl, rfl⟩ | ⟨b3, _, rfl, rfl⟩
  · exact ⟨rfl, rfl⟩
  · omega
  · omega
  · exact ⟨rfl, rfl⟩
theorem objsR_ex : ∀ d j, W - posN K wd F p j ≤ d → Hds K wd F p j → posN K wd F p j ≤ W → ∃ l e, ObjsR K wd F p W l e
  | 0, j, h1, h2, h3 => ⟨_, _, j, h2, h3, .inl ⟨by omega, rfl, rfl⟩⟩
  | d + 1, j, h1, h2, h3 => by
    by_cases h4 : posN K wd F p j = W
    · exact ⟨_, _, j, h2, h3, .inl ⟨h4, rfl, rfl⟩⟩
    · by_cases h5 : hdB (wd (adrN K wd F p j)) ∧ posN K wd F p (j + 1) ≤ W
      · have := posN_lt (K := K) (wd := wd) (F := F) (p := p) j
        exact objsR_ex d (j + 1) (by omega) (h2.more h5.1) h5.2
      · exact ⟨_, _, j, h2, h3, .inr ⟨by omega, h5, rfl, rfl⟩⟩
theorem ObjsR.len (h : ObjsR K wd F p W l e) : l.length ≤ W ∧ (e = 0 ∨ e = 12 ∧ l = []) := by
  obtain ⟨j, a1, a2, ⟨a3, rfl, rfl⟩ | ⟨a3, _, rfl, rfl⟩⟩ := h
  · rw [lstN_length]
    exact ⟨by have := posN_ge (K := K) (wd := wd) (F := F) (p := p) j; omega, .inl rfl⟩
  · exact ⟨by simp, .inr ⟨rfl, rfl⟩⟩
theorem FullR.objs {W : Nat} (h : FullR K wd F p W) : ∃ j, Hds K wd F p j ∧ posN K wd F p j = W ∧ ObjsR K wd F p W (lstN K wd F p j) 0 := by
  obtain ⟨j, h1, h2⟩ := h
  have h3 : posN K wd F p j = W := by omega
  exact ⟨j, h1, h3, j, h1, by omega, .inl ⟨h3, rfl, rfl⟩⟩
theorem objsR_zero : ObjsR K wd F p 0 [] 0 := ⟨0, fun i hi => absurd hi (by omega), Nat.le_refl _, .inl ⟨rfl, rfl, rfl⟩⟩
end

/-- What Objects answers. -/
def ObjsX (s : Int) (nw : Nat) (wd : Nat → Int) (n : Nat) (F : Nat → Fr) (sq bt fi la wo : Int) (l : List Nat) (e : Int) : Prop :=
  (incB s nw wd n F sq bt fi la wo = false ∧ e = 1 ∧ l = []) ∨ (incB s nw wd n F sq bt fi la wo = true ∧ ObjsR s.toNat wd F fi wo.toNat l e)
section
variable {s : Int} {nw : Nat} {wd : Nat → Int} {n : Nat} {F : Nat → Fr} {sq bt fi la wo : Int} {l l' : List Nat} {e e' : Int}
theorem ObjsX.uniq (h : ObjsX s nw wd n F sq bt fi la wo l e) (h' : ObjsX s nw wd n F sq bt fi la wo l' e') : l = l' ∧ e = e' := by
  rcases h with ⟨a1, rfl, rfl⟩ | ⟨a1, a2⟩ <;> rcases h' with ⟨b1, rfl, rfl⟩ | ⟨b1, b2⟩
  · exact ⟨rfl, rfl⟩
  · rw [a1] at b1; cases b1
  · rw [a1] at b1; cases b1
  · exact a2.uniq b2
theorem objsX_ex (s : Int) (nw : Nat) (wd : Nat → Int) (n : Nat) (F : Nat → Fr) (sq bt fi la wo : Int) : ∃ l e, ObjsX s nw wd n F sq bt fi la wo l e := by
  cases h : incB s nw wd n F sq bt fi la wo
  · exact ⟨_, _, .inl ⟨h, rfl, rfl⟩⟩
  · obtain ⟨l, e, h1⟩ := objsR_ex (K := s.toNat) (wd := wd) (F := F) (p := fi) (W := wo.toNat) wo.toNat 0 (by show wo.toNat - 0 ≤ wo.toNat; omega) (fun i hi => absurd hi (by omega)) (Nat.zero_le _)
    exact ⟨l, e, .inr ⟨h, h1⟩⟩
/-- A valid increment with words: its chain. -/
theorem inc_chain9 (h : incB s nw wd n F sq bt fi la wo = true) (hw : 0 < wo) : ∃ k p m W : Nat, s = k ∧ 3 ≤ k ∧ k ≤ 8 ∧ ValidP k nw wd n F ∧ fi = p ∧ p < n ∧ (F p).ow ≠ -1 ∧ LenP F p m ∧ wo = W ∧ 0 < W ∧ W ≤ m * 2 ^ k ∧ m ≤ n + 1 ∧ W ≤ nw := by
  obtain ⟨hv, hfq⟩ := incB_yes h
  obtain ⟨k, rfl, k3, k8⟩ := valid_nat hv
  rw [Int.toNat_natCast] at hfq
  have hst := fits_stB hfq.1
  obtain ⟨h0, _, _, _, W, rfl, hWn, hc, _⟩ := hfq.1
  have h5 := ceilV_cover W k
  have hpos : 0 < ceilV W k := by
    rcases Nat.eq_zero_or_pos (ceilV W k) with e | e
    · rw [e] at h5; omega
    · exact e
  obtain ⟨p, rfl, e2, e3, e4⟩ := hc.len hv.fv hst hpos
  exact ⟨k, p, ceilV W k, W, rfl, k3, k8, hv, rfl, e2, by omega, e4, rfl, by omega, h5, e4.bound hv.fv rfl e2, hWn⟩
theorem inc_zero9 (h : incB s nw wd n F sq bt fi la wo = true) (hw : ¬ 0 < wo) : wo = 0 ∧ fi = -1 ∧ la = -1 := by
  obtain ⟨hv, hfq⟩ := incB_yes h
  obtain ⟨h0, _, _, _, W, rfl, hWn, hc, hz⟩ := hfq.1
  obtain rfl : W = 0 := by omega
  exact ⟨rfl, (hz rfl).1, (hz rfl).2⟩
theorem ObjsX.len (h : ObjsX s nw wd n F sq bt fi la wo l e) : l.length ≤ wo.toNat ∧ (e = 0 ∨ (e = 1 ∨ e = 12) ∧ l = []) := by
  rcases h with ⟨a1, rfl, rfl⟩ | ⟨a1, a2⟩
  · exact ⟨by simp, .inr ⟨.inl rfl, rfl⟩⟩
  · obtain ⟨b1, b2 | ⟨b2, b3⟩⟩ := a2.len
    · exact ⟨b1, .inl b2⟩
    · exact ⟨b1, .inr ⟨.inr b2, b3⟩⟩
end

section
variable {K nw : Nat} {wd : Nat → Int} {n : Nat} {F : Nat → Fr} {p m W : Nat}
/-- The next object is one as Shape says. -/
theorem next_shape (hv : ValidP K nw wd n F) (hu : U64w nw wd) (hp : p < n) (ho : (F p).ow ≠ -1) (hl : LenP F p m) (hW : W ≤ m * 2 ^ K) {j Q x : Nat} (hQ : posN K wd F p j = Q) (hlt : Q < W) (hx : addrP F K p Q = x) :
    adrN K wd F p j = x ∧ ((shpE K nw wd n F x = 0 ∧ (Q : Int) + 1 + shpR K nw wd n F x + shpD K nw wd n F x ≤ W) ↔ (hdB (wd (adrN K wd F p j)) ∧ posN K wd F p (j + 1) ≤ W)) ∧
    (shpE K nw wd n F x = 0 → hdB (wd x) ∧ ((posN K wd F p (j + 1) : Nat) : Int) = Q + 1 + shpR K nw wd n F x + shpD K nw wd n F x) := by
  have ea : adrN K wd F p j = x := by unfold adrN; rw [hQ, hx, Int.toNat_natCast]
  obtain ⟨z, r, e1, h1, hz, hoz, hlt2, _⟩ := addr_in hv hp ho hl (show Q < m * 2 ^ K by omega)
  have hxn : x < nw := by omega
  obtain ⟨r0, r1, d0, d1, _⟩ := Hd.dec_range (wd x) (hu x hxn).1
  have es : ((posN K wd F p (j + 1) : Nat) : Int) = Q + 1 + Hd.decR (wd x) + Hd.decD (wd x) := by
    rw [posN_succ, ea, hQ]
    unfold szW
    omega
  have hs0 := addr_stp hv hp ho hl (P := Q) (Q := 0) (by omega)
  rw [hx] at hs0
  have key : shpE K nw wd n F x = 0 → hdB (wd x) ∧ ((posN K wd F p (j + 1) : Nat) : Int) = Q + 1 + shpR K nw wd n F x + shpD K nw wd n F x := fun h => by
    obtain ⟨_, h3, h4, _, h6, h7⟩ := shp_yes h
    rw [Int.toNat_natCast] at h3 h4 h6 h7
    exact ⟨⟨h3, h4⟩, by rw [h6, h7]; exact es⟩
  refine ⟨ea, ⟨fun ⟨h2, h3⟩ => ?_, fun ⟨⟨h2, h3⟩, h4⟩ => ?_⟩, key⟩
  · obtain ⟨k1, k2⟩ := key h2
    rw [ea]
    exact ⟨k1, by omega⟩
  · rw [ea] at h2 h3
    obtain ⟨R, hR⟩ : ∃ R : Nat, Hd.decR (wd x) = R := ⟨(Hd.decR (wd x)).toNat, by omega⟩
    obtain ⟨D, hD⟩ : ∃ D : Nat, Hd.decD (wd x) = D := ⟨(Hd.decD (wd x)).toNat, by omega⟩
    rw [hR, hD] at es
    have hs1 := addr_stp hv hp ho hl (P := Q) (Q := R + D) (by omega)
    rw [hx] at hs1
    obtain ⟨e2, e3, e4⟩ := shp_ok (s := K) (nw := nw) (wd := wd) (n := n) (F := F) (a := x) hs0.1 (by rw [Int.toNat_natCast]; exact h2) (by rw [Int.toNat_natCast]; exact h3) (by rw [Int.toNat_natCast, hR, hD]; have := hs1.1; rw [Int.natCast_add] at this; exact this)
    rw [Int.toNat_natCast] at e3 e4
    refine ⟨e2, ?_⟩
    rw [e3, e4, hR, hD]
    omega
end
end Go.Proofs.Ythcfcciemjkilaa
