/-
  The objects of increments: contracts of All of the reference of layer 10, of the laws' own objects and near.
-/
import Derived.Test.YthcfcciemjkilaaLook
import Derived.Test.YthcfcciemjkilaaPlc
import Derived.Test.YthcfcciemjkilaaCat
import Derived.Test.YthcfcciemjkilaaMSpace
namespace Go.Proofs.Ythcfcciemjkilaa
open Go.RowKit
set_option maxRecDepth 100000
set_option linter.unusedVariables false

section
variable (K nw : Nat) (wd : Nat → Int) (n : Nat) (F : Nat → Fr)
/-- The objects of a run of words of the chain from p, up to its place Q. -/
def RunP (p : Nat) (l : List Nat) (Q : Nat) : Prop := ∃ ps : Nat → Nat, ps 0 = 0 ∧ ps l.length = Q ∧ ∀ j, j < l.length → ((l.getD j 0 : Nat) : Int) = addrP F K p (ps j) ∧ shpE K nw wd n F ((l.getD j 0 : Nat) : Int) = 0 ∧
  ((ps (j + 1) : Nat) : Int) = ps j + 1 + shpR K nw wd n F ((l.getD j 0 : Nat) : Int) + shpD K nw wd n F ((l.getD j 0 : Nat) : Int)
/-- An object of an increment of the list, at its place q. -/
def IsObj (I : List IncR) (t q x : Nat) : Prop := ∃ i, I[t]? = some i ∧ (x : Int) = addrP F K i.fi q ∧ shpE K nw wd n F x = 0 ∧ (q : Int) + 1 + shpR K nw wd n F x + shpD K nw wd n F x ≤ i.wo
/-- The objects of the first t increments, in their order. -/
def ObjsP (I : List IncR) (t : Nat) (l : List Nat) : Prop := ∃ f q : Nat → Nat, ∀ j, j < l.length → f j < t ∧ IsObj K nw wd n F I (f j) (q j) (l.getD j 0) ∧
  ∀ i, i < j → f i ≠ f j ∨ (q i : Int) + 1 + shpR K nw wd n F ((l.getD i 0 : Nat) : Int) + shpD K nw wd n F ((l.getD i 0 : Nat) : Int) ≤ q j
end
section
variable {K nw : Nat} {wd : Nat → Int} {n : Nat} {F : Nat → Fr}
theorem RunP.nil (p : Nat) : RunP K nw wd n F p [] 0 := ⟨fun _ => 0, rfl, rfl, fun j hj => absurd hj (by simp)⟩
theorem getD_snoc {l : List Nat} {x j : Nat} : (l ++ [x]).getD j 0 = if j < l.length then l.getD j 0 else if j = l.length then x else 0 := by
  rw [List.getD_eq_getElem?_getD, List.getD_eq_getElem?_getD]
  by_cases h : j < l.length
  · rw [if_pos h, List.getElem?_append_left h]
  · rw [if_neg h, List.getElem?_append_right (by omega)]
    by_cases e : j = l.length
    · subst e; simp
    · rw [if_neg e, List.getElem?_eq_none (by simp; omega)]; rfl
theorem RunP.snoc {p Q Q' x : Nat} {l : List Nat} (h : RunP K nw wd n F p l Q) (hx : (x : Int) = addrP F K p Q) (he : shpE K nw wd n F x = 0) (hq : (Q' : Int) = Q + 1 + shpR K nw wd n F x + shpD K nw wd n F x) : RunP K nw wd n F p (l ++ [x]) Q' := by
  obtain ⟨ps, h0, h1, h2⟩ := h
  refine ⟨fun j => if j ≤ l.length then ps j else Q', by show (if 0 ≤ l.length then ps 0 else Q') = 0; rw [if_pos (by omega)]; exact h0, ?_, fun j hj => ?_⟩
  · show (if (l ++ [x]).length ≤ l.length then _ else Q') = Q'
    rw [if_neg (by simp)]
  · show (((l ++ [x]).getD j 0 : Nat) : Int) = addrP F K p (if j ≤ l.length then ps j else Q') ∧ shpE K nw wd n F (((l ++ [x]).getD j 0 : Nat) : Int) = 0 ∧ (((if j + 1 ≤ l.length then ps (j + 1) else Q') : Nat) : Int) = ((if j ≤ l.length then ps j else Q' : Nat) : Int) + 1 + shpR K nw wd n F (((l ++ [x]).getD j 0 : Nat) : Int) + shpD K nw wd n F (((l ++ [x]).getD j 0 : Nat) : Int)
    simp at hj
    rw [getD_snoc, if_pos (show j ≤ l.length by omega)]
    by_cases h : j < l.length
    · rw [if_pos h, if_pos (show j + 1 ≤ l.length by omega)]
      exact h2 j h
    · obtain rfl : j = l.length := by omega
      rw [if_neg h, if_pos rfl, if_neg (by omega), h1]
      exact ⟨hx, he, hq⟩
theorem RunP.mono {p Q : Nat} {l : List Nat} {ps : Nat → Nat} (hu : U64w nw wd) (h : ∀ j, j < l.length → ((ps (j + 1) : Nat) : Int) = ps j + 1 + shpR K nw wd n F ((l.getD j 0 : Nat) : Int) + shpD K nw wd n F ((l.getD j 0 : Nat) : Int)) (i : Nat) : ∀ d, i + d ≤ l.length → ps i ≤ ps (i + d)
  | 0, _ => Nat.le_refl _
  | d + 1, hd => by
    have h1 := RunP.mono (p := p) (Q := Q) hu h i d (by omega)
    have h2 := h (i + d) (by omega)
    have h3 := shp_range (s := K) (n := n) (F := F) (a := ((l.getD (i + d) 0 : Nat) : Int)) hu
    rw [show i + (d + 1) = i + d + 1 by omega]
    omega
theorem RunP.len {p Q : Nat} {l : List Nat} (hu : U64w nw wd) (h : RunP K nw wd n F p l Q) : l.length ≤ Q := by
  obtain ⟨ps, h0, h1, h2⟩ := h
  have key : ∀ j, j ≤ l.length → j ≤ ps j := by
    intro j
    induction j with
    | zero => intro _; omega
    | succ j ih =>
      intro hj
      have h3 := (h2 j (by omega)).2.2
      have h4 := shp_range (s := K) (n := n) (F := F) (a := ((l.getD j 0 : Nat) : Int)) hu
      have := ih (by omega)
      omega
  rw [← h1]
  exact key _ (Nat.le_refl _)
theorem ObjsP.nil (I : List IncR) : ObjsP K nw wd n F I 0 [] := ⟨fun _ => 0, fun _ => 0, fun j hj => absurd hj (by simp)⟩
theorem getD_append {l m : List Nat} {j : Nat} : (l ++ m).getD j 0 = if j < l.length then l.getD j 0 else m.getD (j - l.length) 0 := by
  rw [List.getD_eq_getElem?_getD, List.getD_eq_getElem?_getD, List.getD_eq_getElem?_getD]
  by_cases h : j < l.length
  · rw [if_pos h, List.getElem?_append_left h]
  · rw [if_neg h, List.getElem?_append_right (by omega)]
theorem ObjsP.app {I : List IncR} {t Q p : Nat} {l m : List Nat} {i : IncR} (hu : U64w nw wd) (h : ObjsP K nw wd n F I t l) (hi : I[t]? = some i) (hp : i.fi = p) (hr : RunP K nw wd n F p m Q) (hQ : (Q : Int) ≤ i.wo) : ObjsP K nw wd n F I (t + 1) (l ++ m) := by
  obtain ⟨f, q, h1⟩ := h
  obtain ⟨ps, h0, h2, h3⟩ := hr
  refine ⟨fun j => if j < l.length then f j else t, fun j => if j < l.length then q j else ps (j - l.length), fun j hj => ?_⟩
  have hj2 : j < l.length + m.length := by simpa using hj
  show (if j < l.length then f j else t) < t + 1 ∧ IsObj K nw wd n F I (if j < l.length then f j else t) (if j < l.length then q j else ps (j - l.length)) ((l ++ m).getD j 0) ∧
    ∀ i, i < j → (if i < l.length then f i else t) ≠ (if j < l.length then f j else t) ∨ ((if i < l.length then q i else ps (i - l.length) : Nat) : Int) + 1 + shpR K nw wd n F (((l ++ m).getD i 0 : Nat) : Int) + shpD K nw wd n F (((l ++ m).getD i 0 : Nat) : Int) ≤ ((if j < l.length then q j else ps (j - l.length) : Nat) : Int)
  have mono := fun i d hd => RunP.mono (p := p) (Q := Q) (K := K) (n := n) (F := F) (l := m) (ps := ps) hu (fun j hj => (h3 j hj).2.2) i d hd
  by_cases h : j < l.length
  · obtain ⟨a1, a2, a3⟩ := h1 j h
    rw [getD_append, if_pos h, if_pos h, if_pos h]
    refine ⟨by omega, a2, fun i hi => ?_⟩
    rw [getD_append, if_pos (show i < l.length by omega), if_pos (show i < l.length by omega), if_pos (show i < l.length by omega)]
    exact a3 i hi
  · rw [getD_append, if_neg h, if_neg h, if_neg h]
    obtain ⟨a1, a2, a3⟩ := h3 (j - l.length) (by omega)
    refine ⟨by omega, ⟨i, hi, by rw [hp]; exact a1, a2, ?_⟩, fun i' hi' => ?_⟩
    · have := mono (j - l.length + 1) (m.length - (j - l.length + 1)) (by omega)
      rw [show j - l.length + 1 + (m.length - (j - l.length + 1)) = m.length by omega, h2] at this
      omega
    · rw [getD_append]
      by_cases h' : i' < l.length
      · rw [if_pos h', if_pos h', if_pos h']
        have := (h1 i' h').1
        left; omega
      · rw [if_neg h', if_neg h', if_neg h']
        right
        have a4 := (h3 (i' - l.length) (by omega)).2.2
        have := mono (i' - l.length + 1) (j - l.length - (i' - l.length + 1)) (by omega)
        rw [show i' - l.length + 1 + (j - l.length - (i' - l.length + 1)) = j - l.length by omega] at this
        omega

/-- What an increment of Space gives: its chain covers its words. -/
theorem inc_run {k : Nat} {i : IncR} (hv : ValidP k nw wd n F) (h : IncP F n k i.sq i.bt i.fi i.la i.wo) (hw : 0 < i.wo) : ∃ p m W : Nat, i.fi = p ∧ p < n ∧ (F p).ow = i.sq ∧ i.sq ≠ -1 ∧ LenP F p m ∧ i.wo = W ∧ W ≤ m * 2 ^ k ∧ m ≤ n + 1 := by
  obtain ⟨h1, h2, h3, h4, W, hW, hc, _⟩ := h
  have h5 := ceilV_cover W k
  have hpos : 0 < ceilV W k := by
    rcases Nat.eq_zero_or_pos (ceilV W k) with e | e
    · rw [e] at h5; omega
    · exact e
  have hs : stB (i.bt * 4294967296 + i.sq) i.sq = true := (stB_of ⟨h1, by omega, by omega⟩).symm
  obtain ⟨p, e1, e2, e3, e4⟩ := hc.len hv.fv hs hpos
  exact ⟨p, ceilV W k, W, e1, e2, e3, by omega, e4, hW, h5, e4.bound hv.fv rfl e2⟩
/-- Words of objects: the word u behind the header of the one is the word v behind the header of the other only where all is the same. -/
theorem obj_word {I : List IncR} {t q x : Nat} (hu : U64w nw wd) (hv : ValidP K nw wd n F) (hall : AllP F n K I) (h : IsObj K nw wd n F I t q x) {u : Nat} (hux : (u : Int) ≤ shpR K nw wd n F x + shpD K nw wd n F x) :
    ∃ i p m W z r : Nat, ∃ ir, I[t]? = some ir ∧ ir.fi = p ∧ p < n ∧ (F p).ow = ir.sq ∧ ir.sq ≠ -1 ∧ LenP F p m ∧ q + u < m * 2 ^ K ∧ stpE K nw wd n F x u = 0 ∧ stpV K nw wd n F x u = addrP F K p (q + u) ∧ stpV K nw wd n F x u = ((z * 2 ^ K + r : Nat) : Int) ∧ r < 2 ^ K ∧ (F z).ow = ir.sq := by
  obtain ⟨i, hi, hx, he, hw⟩ := h
  have hr := shp_range (s := K) (n := n) (F := F) (a := (x : Int)) hu
  obtain ⟨h1, h2, _⟩ := hall t i hi
  obtain ⟨p, m, W, e1, e2, e3, e4, e5, e6, e7, _⟩ := inc_run hv h1 h2
  have hlt : q + u < m * 2 ^ K := by omega
  rw [e1] at hx
  have hs := addr_stp hv e2 (by rw [e3]; exact e4) e5 hlt
  rw [← hx] at hs
  obtain ⟨z, r, a1, a2, a3, a4, _⟩ := addr_in hv e2 (by rw [e3]; exact e4) e5 hlt
  exact ⟨0, p, m, W, z, r, i, hi, e1, e2, e3, e4, e5, hlt, hs.1, hs.2, hs.2.trans a1, a2, by rw [a4, e3]⟩
theorem obj_apart {I : List IncR} {t q x t' q' x' u u' : Nat} (hu : U64w nw wd) (hv : ValidP K nw wd n F) (hall : AllP F n K I) (h : IsObj K nw wd n F I t q x) (h' : IsObj K nw wd n F I t' q' x')
    (hux : (u : Int) ≤ shpR K nw wd n F x + shpD K nw wd n F x) (hux' : (u' : Int) ≤ shpR K nw wd n F x' + shpD K nw wd n F x') (e : stpV K nw wd n F x u = stpV K nw wd n F x' u') : t = t' ∧ q + u = q' + u' := by
  obtain ⟨_, p, m, W, z, r, i, a1, a2, a3, a4, a5, a6, a7, a8, a9, a10, a11, a12⟩ := obj_word hu hv hall h hux
  obtain ⟨_, p', m', W', z', r', i', b1, b2, b3, b4, b5, b6, b7, b8, b9, b10, b11, b12⟩ := obj_word hu hv hall h' hux'
  have e1 : z * 2 ^ K + r = z' * 2 ^ K + r' := by
    rw [a10, b10] at e
    exact_mod_cast e
  obtain ⟨rfl, _⟩ := parts_uniq a11 b11 e1
  have e2 : i.sq = i'.sq := a12.symm.trans b12
  obtain ⟨_, _, c1, c2⟩ := hall t i a1
  obtain ⟨_, _, d1, d2⟩ := hall t' i' b1
  obtain rfl : t = t' := by omega
  rw [a1] at b1
  injection b1 with b1
  subst b1
  obtain rfl : p = p' := by omega
  obtain rfl := a6.uniq b6
  rw [a9, b9] at e
  exact ⟨rfl, addr_inj hv a3 (by rw [a4]; exact a5) a6 a7 b7 e⟩
end

def AllOut (K nw : Nat) (wd : Nat → Int) (n : Nat) (F : Nat → Fr) (p W : Nat) (w : World) (e : Ending) (w' : World) : Prop := ∃ (l : List Nat) (y : Int) (Q : Nat), GivesLst l y w e w' ∧ RunP K nw wd n F p l Q ∧ Q ≤ W
set_option maxHeartbeats 4000000 in
theorem refAll_any (K : Nat) (A A' : Option Addr) (nw c n c' : Nat) (wd : Nat → Int) (F : Nat → Fr) (sq bt la : Int) (p m W : Nat) (w : World) (hA : Arr w w.heap.size A nw c wd) (hT : Tab w w.heap.size A' n c' F) (hv : ValidP K nw wd n F) (hu : U64w nw wd)
    (hp : p < n) (ho : (F p).ow ≠ -1) (hl : LenP F p m) (hW : W ≤ m * 2 ^ K) (hm : m ≤ n + 1) :
    Calls Try.prog 31 #[.agg #[.int .i64 K, .slice A nw c, .slice A' n c'], .agg #[.int .i64 sq, .int .i64 bt, .int .i64 p, .int .i64 la, .int .i64 W]] w (AllOut K nw wd n F p W w) := by
  obtain ⟨i0, hi0, hz0, hz1, hz2⟩ := info_parts int_info
  obtain ⟨n2, n64, nw0, nw1⟩ := sp_bounds hv
  obtain ⟨_, k8⟩ := shB_yes hv.1
  have hW2 : W ≤ 16640 := by
    have h := Nat.mul_le_mul (show m ≤ 65 by omega) (show 2 ^ K ≤ 256 from Nat.pow_le_pow_right (n := 2) (by decide) (show K ≤ 8 by omega))
    omega
  have hp2 := prod_bd (n := p) (k := K) (by omega) (by omega)
  obtain ⟨U, hU⟩ : ∃ U, U = (w.alloc (.cells #[.int .i64 K, .slice A nw c, .slice A' n c'] 25)).alloc (.cells #[.int .i64 sq, .int .i64 bt, .int .i64 p, .int .i64 la, .int .i64 W] 27) := ⟨_, rfl⟩
  have BS : Blk U w.heap.size 25 #[.int .i64 K, .slice A nw c, .slice A' n c'] := by rw [hU]; exact (Blk.new _ _ _).alloc _
  have BI : Blk U (w.heap.size + 1) 27 #[.int .i64 sq, .int .i64 bt, .int .i64 p, .int .i64 la, .int .i64 W] := by rw [hU]; exact Blk.newAt _ _ _ _ (by simp)
  have HBU : Hid (Below w.heap.size w U) := by rw [hU]; exact ((Below.refl _ _).alloc (Nat.le_refl _) _).alloc (by simp) _
  have HU := Lib.hid hU
  have HA := Lib.hid (hA.next HBU.out)
  have HT := Lib.hid (hT.next HBU.out)
  have HV := Lib.hid hv
  have HL := Lib.hid hl
  have HO := Lib.hid ho
  have eb : addrP F K p 0 = (p : Int) * 2 ^ K := by rw [addr_self (Nat.two_pow_pos K)]; simp
  have GO := Lib.hid (show ∀ (Q : Nat) (W' : World), Q < W → Below U.heap.size U W' → Calls Try.prog 49 #[.agg #[.int .i64 K, .slice A nw c, .slice A' n c'], .int .i64 ((p : Int) * 2 ^ K), .int .i64 Q] W' (Gives2 (addrP F K p Q) 0 W') from fun Q W' hQ hW' => by
    have h := refGo5_any K A A' nw c n c' wd F ((p : Int) * 2 ^ K) Q W' (HT.out.next hW') HV.out (by omega) (by omega)
    have hs := addr_stp hv hp ho hl (P := 0) (Q := Q) (by omega)
    rw [eb, Nat.zero_add] at hs
    rw [hs.1, hs.2] at h
    exact h)
  have LK := Lib.hid (show ∀ (x : Nat) (W' : World), Below U.heap.size U W' → Calls Try.prog 32 #[.agg #[.int .i64 K, .slice A nw c, .slice A' n c'], .int .i64 x] W' (Gives3 (shpR K nw wd n F x) (shpD K nw wd n F x) (shpE K nw wd n F x) W') from fun x W' hW' =>
    refLook_any K A A' nw c n c' wd F x W' (HA.out.next hW') (HT.out.next hW') hv hu)
  have HU64 := Lib.hid hu
  clear hA hT hU hv ho hl eb hu
  go_enter Try.func31, Try.ntmps31
  go_wp2
  rw [← HU.out]
  go_loopw [6, 7, 8, 9, 10, 11, 12] (fun v at_ _ _ _ _ _ wr => ∃ (l : List Nat) (Q : Nat), Q ≤ W ∧ at_ = .int .i64 Q ∧ RunP K nw wd n F p l Q ∧ wr.ownsRow U.heap.size 3 1 v l.length (numL l) ∧ Below U.heap.size U wr ∧ ∃ A c, v = .slice A l.length c) (fun _ at_ _ _ _ _ _ _ => W - (intOf at_).toNat)
  case atStart => exact ⟨[], 0, by omega, rfl, RunP.nil _, World.ownsRow_nil _ _ _ _, Below.refl _ _, none, 0, rfl⟩
  case round =>
    obtain ⟨l, Q, hQ, rfl, hrun, hown, hb, A2, c2, rfl⟩ := hrel
    have BS1 := BS.next hb
    have BI1 := BI.next hb
    have HRUN := Lib.hid hrun
    have HOW := Lib.hid hown
    have HB := Lib.hid hb
    have hlen := hrun.len HU64.out
    clear hrun hown hb
    by_cases hlt : Q < W
    · have hlt2 : (Q : Int) < W := by omega
      have q0 := BS1.cell 0
      have q1 := BS1.cell 1
      have q2 := BS1.cell 2
      have qz := BS1.lt
      have j2 := BI1.cell 2
      have j4 := BI1.cell 4
      have jz := BI1.lt
      simp at q0 q1 q2 j2 j4
      have G := GO.out Q wr hlt HB.out
      obtain ⟨z, r, ea, _, _, _, hnw, _⟩ := addr_in HV.out hp HO.out HL.out (show Q < m * 2 ^ K by omega)
      obtain ⟨x, hx⟩ : ∃ x : Nat, addrP F K p Q = x := ⟨_, ea⟩
      have hxnw : x < nw := by rw [hx] at ea; omega
      rw [hx] at G
      have HXX := Lib.hid hx
      clear ea hnw hx
      go_wp2_with fail
      refine G.mono ?_
      rintro e W1 ⟨rfl, hb1⟩
      have HB1 := Lib.hid (below_next HB.out (Nat.le_refl _) hb1)
      have BS2 := BS1.next hb1
      have BI2 := BI1.next hb1
      have HOW1 := Lib.hid (ownsRow_below8 HOW.out hb1)
      clear hb1 q0 q1 q2 qz j2 j4 jz BS1 BI1 G
      have q0 := BS2.cell 0
      have q1 := BS2.cell 1
      have q2 := BS2.cell 2
      have qz := BS2.lt
      simp at q0 q1 q2
      have L := LK.out x W1 HB1.out
      have hr := shp_range (s := K) (n := n) (F := F) (a := (x : Int)) HU64.out
      obtain ⟨R, hR⟩ : ∃ R : Nat, shpR K nw wd n F x = R := ⟨(shpR K nw wd n F x).toNat, by omega⟩
      obtain ⟨D, hD⟩ : ∃ D : Nat, shpD K nw wd n F x = D := ⟨(shpD K nw wd n F x).toNat, by omega⟩
      obtain ⟨y, hy⟩ : ∃ y, shpE K nw wd n F x = y := ⟨_, rfl⟩
      rw [hR, hD, hy] at L
      rw [hR, hD] at hr
      have HR := Lib.hid hR
      have HD := Lib.hid hD
      have HY := Lib.hid hy
      clear hR hD hy
      go_wp2_with fail
      refine L.mono ?_
      rintro e W2 ⟨rfl, hb2⟩
      have HB2 := Lib.hid (below_next HB1.out (Nat.le_refl _) hb2)
      have BI3 := BI2.next hb2
      have HOW2 := Lib.hid (ownsRow_below8 HOW1.out hb2)
      have j4 := BI3.cell 4
      have jz := BI3.lt
      simp at j4
      clear hb2 q0 q1 q2 qz L BS2 BI2
      by_cases hy0 : y = 0
      · by_cases hfit : Q + 1 + R + D ≤ W
        · subst hy0
          have hfit2 : ¬ ((Q : Int) + 1 + R + D > W) := by omega
          have hob := row_block HOW2.out
          have zz : U.heap.size ≤ W2.heap.size := HB2.out.size
          go_wp2_with (at_builtin; refine wpList_append_own _ rfl _ _ 28 rfl U.heap.size 3 i0 (.int .i64 0) 1 8 Try.underlying28 hi0 hz0 hz1 hz2 rfl (by decide) _ l.length (numL l) rfl (HOW2.out.alloc _) ⟨W2.heap.size, 0, none⟩ 1 1 [.int .i64 x] rfl rfl ?c1 (by simp [Value.oneCell']) (by simp only [maxLen]; omega) (by omega) ?c5 ?_)
          case c1 => exact one_news (by go_simp)
          case c5 => simp; omega
          intro v' w1 hown' hgrow _
          have e1 : numL l ++ [.int .i64 x] = numL (l ++ [x]) := by simp [numL]
          have e2 : l.length + 1 = (l ++ [x]).length := by simp
          rw [e1] at hown'
          obtain ⟨A1, c1', rfl, _⟩ := row_slice hown'
          have hb1' : Below U.heap.size U w1 := (HB2.out.alloc HB2.out.size _).grown hgrow (by simp; omega) hob
          have HN := Lib.hid (show w1.ownsRow U.heap.size 3 1 (.slice A1 (l.length + 1) c1') (l ++ [x]).length (numL (l ++ [x])) by rw [← e2]; exact hown')
          have HBN := Lib.hid hb1'
          have HLEN := Lib.hid e2
          have HR2 := Lib.hid (show RunP K nw wd n F p (l ++ [x]) (Q + 1 + R + D) from HRUN.out.snoc HXX.out.symm HY.out (by rw [HR.out, HD.out]; omega))
          clear hown' hgrow hob hb1' e1 e2
          go_wp2
          exact ⟨⟨l ++ [x], Q + 1 + R + D, hfit, congrArg (Value.int IntKind.i64) (by omega), HR2.out, HN.out, HBN.out, A1, c1', by rw [← HLEN.out]⟩, by simp [intOf]; omega⟩
        · subst hy0
          have hfit2 : (Q : Int) + 1 + R + D > W := by omega
          go_wp2_with fail
          go_ret2
          exact ⟨[], 12, 0, gives_none (below_next HBU.out (Nat.le_refl _) HB2.out), RunP.nil _, by omega⟩
      · have hne : (y != 0) = true := by simpa using hy0
        clear hy0
        go_wp2_with fail
        go_ret2
        exact ⟨[], 12, 0, gives_none (below_next HBU.out (Nat.le_refl _) HB2.out), RunP.nil _, by omega⟩
    · obtain rfl : Q = W := by omega
      have hlt2 : ¬ (Q : Int) < Q := by omega
      have j4 := BI1.cell 4
      have jz := BI1.lt
      simp at j4
      obtain ⟨A3, c3, e3, hn3, _⟩ := nums_of_row HOW.out
      injection e3 with e3 _ e4
      subst e3 e4
      have HN3 := Lib.hid hn3
      clear hn3
      go_wp2
      go_ret2
      exact ⟨l, 0, Q, ⟨A2, c2, rfl, HN3.out, below_next HBU.out (Nat.le_refl _) HB.out⟩, HRUN.out, Nat.le_refl _⟩
end Go.Proofs.Ythcfcciemjkilaa
