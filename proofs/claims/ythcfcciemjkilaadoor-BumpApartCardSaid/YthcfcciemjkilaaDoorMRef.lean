/-
  Merged: Fresh, Same, Pool, Ch, Copy, Go.
-/
import Derived.Test.YthcfcciemjkilaaDoorMVal
import Derived.Test.YthcfcciemjkilaaDoorMBase
import Derived.BigQuiet
import Derived.Test.YthcfcciemjkilaaDoorMRVal
import Derived.Test.YthcfcciemjkilaaDoorMPure
import Derived.OwnWalk
import Derived.Laws.AppendOwnNone
import Derived.Deep.RegionHeld3
namespace Go.Proofs.YthcfcciemjkilaaDoor
set_option maxRecDepth 100000
open Go.RowKit
set_option linter.unusedVariables false

theorem drawn {B : Nat} {a w : World} (m : Nat) (h : Below B a w) : Below B a (w.drewN m) := h.trans ⟨rfl, rfl, rfl, Nat.le_refl _, fun _ _ => rfl⟩

end Go.Proofs.YthcfcciemjkilaaDoor

namespace Go.Proofs.YthcfcciemjkilaaDoor
set_option maxRecDepth 100000
open Go.RowKit
set_option linter.unusedVariables false

theorem after_drawn {w w' : World} (m : Nat) (h : Below w.heap.size w w') : Below w.heap.size w (w'.drewN m) := h.trans ⟨rfl, rfl, rfl, Nat.le_refl _, fun _ _ => rfl⟩

end Go.Proofs.YthcfcciemjkilaaDoor

namespace Go.Proofs.YthcfcciemjkilaaDoor
set_option maxRecDepth 100000
open Go.RowKit
set_option linter.unusedVariables false

theorem int_info : (Tryd.prog.info? 3).map (fun i => (i.zero, i.size, i.bytes)) = some (some (.int .i64 0), 1, 8) := by kernel_rfl
theorem row_slice {w : World} {base : Nat} {t : TypeId} {size n : Nat} {v : Value} {xs : List Value} (h : w.ownsRow base t size v n xs) : ∃ A c, v = .slice A n c ∧ n ≤ c := by
  obtain ⟨hl, h⟩ := h
  rcases h with ⟨rfl, rfl⟩ | ⟨g, cap, cur, rfl, hb, hg, hn, hm, hs, ht⟩
  · exact ⟨none, 0, rfl, Nat.le_refl _⟩
  · exact ⟨_, _, rfl, hn⟩
theorem row_block {w : World} {base : Nat} {t : TypeId} {size n : Nat} {v : Value} {xs : List Value} (h : w.ownsRow base t size v n xs) : ∀ k, v.ownBlock = some k → base ≤ k := by
  intro k hk
  obtain ⟨hl, h⟩ := h
  rcases h with ⟨rfl, rfl⟩ | ⟨g, cap, cur, rfl, hb, _⟩
  · simp [Value.ownBlock] at hk
  · simp [Value.ownBlock] at hk
    omega

/-- How many frames of 2 ^ k words n words need. -/
def ceilV (n k : Nat) : Nat := (n + 2 ^ k - 1) / 2 ^ k
theorem ceilV_cast (n k : Nat) : ((n : Int) + 2 ^ k - 1) / 2 ^ k = (ceilV n k : Nat) := by
  have h : 1 ≤ 2 ^ k := Nat.one_le_two_pow
  have e : ((2 ^ k : Nat) : Int) = (2 : Int) ^ k := by simp
  unfold ceilV
  rw [Int.natCast_ediv, ← e]
  congr 1
  omega

theorem ceil_any (n k : Nat) (w : World) (hn : n ≤ 65536) (hk : k ≤ 8) :
    Calls Tryd.prog 59 #[.int .i64 n, .int .i64 k] w fun e w' => e = .returned (.int .i64 (ceilV n k : Nat)) ∧ w = w' := by
  have p0 := pw_pos k
  have p1 := pw_bd hk
  have HC := Lib.hid (ceilV_cast n k)
  go_enter Tryd.func59, Tryd.ntmps59
  go_wp2
  go_ret
  exact ⟨ret_i64 HC.out, rfl⟩

theorem one_news {w : World} {g : Nat} {v : Value} (h : w.cell? ⟨g, 0, none⟩ = some v) : ∀ (j : Nat) (u : Value), [v][j]? = some u → w.cell? ((⟨g, 0, none⟩ : Addr).add j) = some u := by
  intro j u hu
  rcases j with _ | j
  · simp at hu
    subst hu
    rw [add_at]
    exact h
  · simp at hu

def FreeRow (F : Nat → Fr) (w : World) (i v : Value) (n : Nat) (wr : World) : Prop :=
  ∃ t : Nat, t ≤ n ∧ i = .int .i64 t ∧ (∃ xs, wr.ownsRow w.heap.size 3 1 v (freeN F t) xs) ∧ Below w.heap.size w wr

def SliceOf (N : Nat) (w : World) (e : Ending) (w' : World) : Prop := ∃ A c, e = .returned (.slice A N c) ∧ Below w.heap.size w w'

/-- The least free frame. -/
def Least (F : Nat → Fr) (n f : Nat) : Prop := f < n ∧ (F f).ow = -1 ∧ ∀ j, j < f → (F j).ow ≠ -1

/-- What Lift does where a frame is free: the least one is taken, and only the table has turned. -/
def Lifts (F : Nat → Fr) (n : Nat) (o s : Int) (g base c : Nat) (w : World) (e : Ending) (w' : World) : Prop :=
  ∃ f, Least F n f ∧ e = .returned (.int .i64 f) ∧ OwnT w' base (some ⟨g, 0, none⟩) n c (lift F f o s) ∧ w.grownBy w' (some g)

end Go.Proofs.YthcfcciemjkilaaDoor

namespace Go.Proofs.YthcfcciemjkilaaDoor
open Go.RowKit
set_option maxRecDepth 100000
set_option linter.unusedVariables false

def chainList (F : Nat → Fr) (p m : Nat) : List Value := (List.range m).map fun i => .int .i64 (iter F i p)
theorem chainList_succ (F : Nat → Fr) (p m : Nat) : chainList F p (m + 1) = chainList F p m ++ [.int .i64 (iter F m p)] := by
  simp [chainList, List.range_succ]

/-- The chain from p, as a row of the call's own. -/
def ChainOf (F : Nat → Fr) (p : Nat) (w : World) (e : Ending) (w' : World) : Prop :=
  ∃ m v, e = .returned v ∧ iter F m p = -1 ∧ (∀ i, i < m → iter F i p ≠ -1) ∧ w'.ownsRow w.heap.size 3 1 v m (chainList F p m) ∧ Below w.heap.size w w'

set_option maxHeartbeats 1000000 in
theorem chain_any (s : Int) (V1 : Value) (A' : Option Addr) (n c' p : Nat) (F : Nat → Fr) (w : World) (hT : Tab w w.heap.size A' n c' F) (hn : n ≤ 64) (hv : FV F n) (hp : p < n) :
    Calls Tryd.prog 38 #[.agg #[.int .i64 s, V1, .slice A' n c'], .int .i64 p] w (ChainOf F p w) := by
  obtain ⟨i0, hi0, hz0, hz1, hz2⟩ := info_parts int_info
  have HT := Lib.hid hT
  have HV := Lib.hid hv
  obtain ⟨U, hU⟩ : ∃ U, U = w.alloc (.cells #[.int .i64 s, V1, .slice A' n c'] 30) := ⟨_, rfl⟩
  have BU : Blk U w.heap.size 30 #[.int .i64 s, V1, .slice A' n c'] := by rw [hU]; exact Blk.new _ _ _
  have HBU : Hid (Below w.heap.size w U) := by rw [hU]; exact (Below.refl _ _).alloc (Nat.le_refl _) _
  have HU := Lib.hid hU
  have zU : w.heap.size < U.heap.size := BU.lt
  clear hT hv hU
  go_enter Tryd.func38, Tryd.ntmps38
  go_wp2
  rw [← HU.out]
  go_loopw [5, 6] (fun v f wr => ∃ j : Nat, j ≤ n + 1 ∧ f = .int .i64 (iter F j p) ∧ (∀ i, i < j → iter F i p ≠ -1) ∧ wr.ownsRow U.heap.size 3 1 v j (chainList F p j) ∧ Below U.heap.size U wr ∧ (∃ A c, v = .slice A j c)) (fun v _ _ => match v with | .slice _ j _ => n + 2 - j | _ => 0)
  case atStart => exact ⟨0, by omega, rfl, fun i hi => by omega, World.ownsRow_nil _ _ _ _, Below.refl _ _, none, 0, rfl⟩
  case round =>
    obtain ⟨j, hj, rfl, hne, hown, hb, A, c, rfl⟩ := hrel
    have BR := BU.next hb
    have p2 := BR.cell 2
    simp at p2
    have HNE := Lib.hid hne
    have HO := Lib.hid hown
    have HB := Lib.hid hb
    have HBW : Hid (Below w.heap.size w wr) := below_next HBU.out (Nat.le_refl _) hb
    have wz : w.heap.size < wr.heap.size := BR.lt
    have zz : U.heap.size ≤ wr.heap.size := hb.size
    have ir := iter_in HV.out.inside hp j
    clear hne hown hb BR
    by_cases he : iter F j p = -1
    · have HE := Lib.hid he
      rw [he]
      clear he ir
      go_wp2
      go_ret
      exact ⟨j, _, rfl, HE.out, HNE.out, ⟨HO.out.1, HO.out.2.imp id (fun ⟨g, cap, cur, h1, h2, h3⟩ => ⟨g, cap, cur, h1, by omega, h3⟩)⟩, HBW.out⟩
    · obtain ⟨y, hy⟩ : ∃ y : Nat, iter F j p = y := ⟨(iter F j p).toNat, by omega⟩
      have y1 : y < n := by omega
      have hjn : j ≤ n := by
        rcases Nat.lt_or_ge n j with h | h
        · exact absurd (by rw [show j = n + 1 by omega]; exact HV.out.2.2 p hp) he
        · exact h
      have hb1 : ((y : Int) == -1) = false := by simp
      have yb : 0 ≤ (y : Int) ∧ (y : Int) < n := by omega
      have hnx : iter F (j + 1) p = (F y).nx := by rw [iter_succ, if_neg he, hy, Int.toNat_natCast]
      have HNX := Lib.hid hnx
      have HY := Lib.hid hy
      have HTR : Hid (Tab wr w.heap.size A' n c' F) := HT.out.below HBW.out
      obtain ⟨b, o, rfl, hbb⟩ := HTR.out.base_ (by omega)
      obtain ⟨_, _, _, c2⟩ := HTR.out.cells y y1
      have bz : b < wr.heap.size := by omega
      have hob := row_block HO.out
      rw [hy]
      clear hy he ir hnx
      go_wp2_with (at_builtin; refine wpList_append_own _ rfl _ _ 22 rfl U.heap.size 3 i0 (.int .i64 0) 1 8 Tryd.underlying22 hi0 hz0 hz1 hz2 rfl (by decide) _ j (chainList F p j) rfl (HO.out.alloc _) ⟨wr.heap.size, 0, none⟩ 1 1 [.int .i64 y] rfl rfl ?c1 (by simp [Value.oneCell']) (by simp only [maxLen]; omega) (by omega) ?c5 ?_)
      case c1 => exact one_news (by go_simp)
      case c5 => simp; omega
      intro v' w1 hown' hgrow _
      obtain ⟨A1, c1', rfl, _⟩ := row_slice hown'
      have hb1' : Below U.heap.size U w1 := (HB.out.alloc HB.out.size _).grown hgrow (by simp; omega) hob
      have p2' := (BU.next hb1').cell 2
      simp at p2'
      have c2' : w1.cell? ⟨b, o + y * 3 + 2, none⟩ = some (.int .i64 (F y).nx) := by
        rw [(below_next HBU.out (Nat.le_refl _) hb1').cell (p := ⟨b, o + y * 3 + 2, none⟩) hbb, ← HBW.out.cell (p := ⟨b, o + y * 3 + 2, none⟩) hbb]
        exact c2
      have HN : Hid (w1.ownsRow U.heap.size 3 1 (.slice A1 (j + 1) c1') (j + 1) (chainList F p (j + 1))) := by rw [chainList_succ, HY.out]; exact hown'
      have HBN := Lib.hid hb1'
      clear hown' hgrow hob hb1' p2 c2
      go_wp2
      refine ⟨⟨j + 1, by omega, by rw [HNX.out], fun i hi => ?_, HN.out, HBN.out, A1, c1', rfl⟩, by simp; omega⟩
      rcases (show i < j ∨ i = j by omega) with h | rfl
      · exact HNE.out i h
      · rw [HY.out]; omega

/-- An increment, by its fields. -/
def incV (sq bt fi la wo : Int) : Value := .agg #[.int .i64 sq, .int .i64 bt, .int .i64 fi, .int .i64 la, .int .i64 wo]

theorem frames_any (k wo : Nat) (V1 V2 : Value) (sq bt fi la : Int) (w : World) (hn : wo ≤ 65536) (hk : k ≤ 8) :
    Calls Tryd.prog 39 #[.agg #[.int .i64 k, V1, V2], .agg #[.int .i64 sq, .int .i64 bt, .int .i64 fi, .int .i64 la, .int .i64 wo]] w fun e w' => e = .returned (.int .i64 (ceilV wo k : Nat)) ∧ Below w.heap.size w w' := by
  go_enter Tryd.func39, Tryd.ntmps39
  go_wp2_with (go_at_call 59; refine (ceil_any wo k _ hn hk).mono ?_; rintro e w' ⟨rfl, rfl⟩)
  go_ret
  exact ⟨rfl, ((Below.refl _ _).alloc (Nat.le_refl _) _).alloc (by simp) _⟩

theorem ceilV_mono {a b : Nat} (k : Nat) (h : a ≤ b) : ceilV a k ≤ ceilV b k := by
  unfold ceilV
  exact Nat.div_le_div_right (by omega)
theorem ceilV_le {a k : Nat} (h : 1 ≤ 2 ^ k) : ceilV a k ≤ a := by
  unfold ceilV
  rcases Nat.eq_zero_or_pos a with rfl | ha
  · rw [Nat.div_eq_of_lt (by omega)]; exact Nat.le_refl _
  · refine Nat.div_le_of_le_mul ?_
    have := Nat.mul_le_mul h ha
    have h2 : 2 ^ k * a = (2 ^ k - 1) * a + a := by
      rw [← Nat.succ_mul]; congr 1; omega
    have h3 : (2 ^ k - 1) * 1 ≤ (2 ^ k - 1) * a := Nat.mul_le_mul_left _ ha
    omega

/-- Some bool, and nothing that was there has turned. -/
def SomeBool (w : World) (e : Ending) (w' : World) : Prop := ∃ b, e = .returned (.bool b) ∧ Below w.heap.size w w'

end Go.Proofs.YthcfcciemjkilaaDoor

namespace Go.Proofs.YthcfcciemjkilaaDoor
set_option maxRecDepth 100000
open Go.RowKit
set_option linter.unusedVariables false

/-- A slice of n words that read as f, made by the call. -/
def GivesOwn (n : Nat) (f : Nat → Int) (w : World) (e : Ending) (w' : World) : Prop :=
  ∃ A c, e = .returned (.slice A n c) ∧ Own w' w.heap.size A n c f ∧ Below w.heap.size w w'

theorem news_words {w : World} {B n c : Nat} {x : Addr} {f : Nat → Int} (h : Arr w B (some x) n c f) : ∀ j u, (wordsOf n f)[j]? = some u → w.cell? (x.add j) = some u := by
  intro j u hu
  obtain ⟨hj, rfl⟩ := wordsOf_get' hu
  obtain ⟨b, o, hA, _, hc⟩ := h.2.2.2 (by omega)
  injection hA with hA
  subst hA
  rw [add_at]
  exact hc j hj

/-- The cells of a table, one after the other. -/
def tabList (n : Nat) (F : Nat → Fr) : List Value := (List.range n).flatMap fun j => [.int .i64 (F j).ow, .int .i64 (F j).st, .int .i64 (F j).nx]
theorem tabList_succ (n : Nat) (F : Nat → Fr) : tabList (n + 1) F = tabList n F ++ [.int .i64 (F n).ow, .int .i64 (F n).st, .int .i64 (F n).nx] := by simp [tabList, List.range_succ]
theorem tabList_length : ∀ (n : Nat) (F : Nat → Fr), (tabList n F).length = n * 3
  | 0, F => rfl
  | n + 1, F => by rw [tabList_succ, List.length_append, tabList_length n F]; simp; omega
theorem tabList_get : ∀ (n : Nat) (F : Nat → Fr) (j : Nat), j < n → (tabList n F)[j * 3]? = some (.int .i64 (F j).ow) ∧ (tabList n F)[j * 3 + 1]? = some (.int .i64 (F j).st) ∧ (tabList n F)[j * 3 + 2]? = some (.int .i64 (F j).nx)
  | 0, F, j, h => absurd h (by omega)
  | n + 1, F, j, h => by
    have hl := tabList_length n F
    rw [tabList_succ]
    rcases (show j < n ∨ j = n by omega) with h1 | rfl
    · obtain ⟨a, b, c⟩ := tabList_get n F j h1
      rw [List.getElem?_append_left (by omega), List.getElem?_append_left (by omega), List.getElem?_append_left (by omega)]
      exact ⟨a, b, c⟩
    · rw [List.getElem?_append_right (by omega), List.getElem?_append_right (by omega), List.getElem?_append_right (by omega), hl]
      have e0 : j * 3 - j * 3 = 0 := by omega
      have e1 : j * 3 + 1 - j * 3 = 1 := by omega
      have e2 : j * 3 + 2 - j * 3 = 2 := by omega
      rw [e0, e1, e2]
      exact ⟨rfl, rfl, rfl⟩
theorem tabList_one (n : Nat) (F : Nat → Fr) : ∀ u ∈ tabList n F, u.oneCell' = true := by
  intro u hu
  simp only [tabList, List.mem_flatMap] at hu
  obtain ⟨j, _, hj⟩ := hu
  simp at hj
  rcases hj with rfl | rfl | rfl <;> rfl
theorem tabList_cells {w : World} {B n c b o : Nat} {F : Nat → Fr} (h : Tab w B (some ⟨b, o, none⟩) n c F) : ∀ j u, (tabList n F)[j]? = some u → w.cell? ((⟨b, o, none⟩ : Addr).add j) = some u := by
  intro j u hu
  have hl := tabList_length n F
  have hj : j < n * 3 := by
    rcases Nat.lt_or_ge j (n * 3) with h1 | h1
    · exact h1
    · rw [List.getElem?_eq_none (by omega)] at hu; cases hu
  obtain ⟨_, c0, c1, c2⟩ := h.cells (j / 3) (by omega)
  obtain ⟨g0, g1, g2⟩ := tabList_get n F (j / 3) (by omega)
  rw [add_at]
  rcases (show j = j / 3 * 3 ∨ j = j / 3 * 3 + 1 ∨ j = j / 3 * 3 + 2 by omega) with e | e | e
  · rw [e] at hu ⊢; rw [g0] at hu; injection hu with hu; rw [← hu]; exact c0
  · rw [e] at hu ⊢; rw [g1] at hu; injection hu with hu; rw [← hu, ← Nat.add_assoc]; exact c1
  · rw [e] at hu ⊢; rw [g2] at hu; injection hu with hu; rw [← hu, ← Nat.add_assoc]; exact c2

/-- What append leaves, as a table of the call's own. -/
theorem ownT_of_row {w : World} {base : Nat} {v : Value} {n : Nat} {F : Nat → Fr} (h : w.ownsRow base 42 3 v n (tabList n F)) (hn : 0 < n) :
    ∃ g c, v = .slice (some ⟨g, 0, none⟩) n c ∧ OwnT w base (some ⟨g, 0, none⟩) n c F := by
  obtain ⟨hl, h⟩ := h
  rcases h with ⟨rfl, rfl⟩ | ⟨g, cap, cur, rfl, hb, hg, hn2, hm, hs, ht⟩
  · omega
  · refine ⟨g, cap, rfl, hn2, hm, .inr ⟨g, cur, rfl, hb, hg, hs, fun j hj => ?_⟩⟩
    obtain ⟨g0, g1, g2⟩ := tabList_get n F j hj
    have key : ∀ (i : Nat) (u : Value), (tabList n F)[i]? = some u → cur[i]? = some u := by
      intro i u hu
      have hi : i < n * 3 := by
        rcases Nat.lt_or_ge i (n * 3) with h1 | h1
        · exact h1
        · rw [List.getElem?_eq_none (by rw [tabList_length]; omega)] at hu; cases hu
      rw [← ht, List.getElem?_take, if_pos hi] at hu
      simpa using hu
    exact ⟨key _ _ g0, key _ _ g1, key _ _ g2⟩

/-- A new space that reads as the old one. -/
def CopyOf (k : Int) (nw n : Nat) (wd : Nat → Int) (F : Nat → Fr) (w : World) (e : Ending) (w' : World) : Prop :=
  ∃ A c g c', e = .returned (.agg #[.int .i64 k, .slice A nw c, .slice (some ⟨g, 0, none⟩) n c']) ∧ Own w' w.heap.size A nw c wd ∧ OwnT w' w.heap.size (some ⟨g, 0, none⟩) n c' F ∧ Below w.heap.size w w'

end Go.Proofs.YthcfcciemjkilaaDoor

namespace Go.Proofs.YthcfcciemjkilaaDoor
set_option maxRecDepth 100000
open Go.RowKit
set_option linter.unusedVariables false

theorem addrP_split {F : Nat → Fr} {k y p : Nat} {first : Int} (h : iter F (p / 2 ^ k) first = y) :
    addrP F k first p = ((y * 2 ^ k + p % 2 ^ k : Nat) : Int) ∧ addrP F k first p / 2 ^ k = y ∧ addrP F k first p % 2 ^ k = ((p % 2 ^ k : Nat) : Int) := by
  have hz : 0 < 2 ^ k := Nat.two_pow_pos k
  have hr : p % 2 ^ k < 2 ^ k := Nat.mod_lt _ hz
  have e : addrP F k first p = ((y * 2 ^ k + p % 2 ^ k : Nat) : Int) := by
    unfold addrP
    rw [h]
    simp
  have ez : (2 : Int) ^ k = ((2 ^ k : Nat) : Int) := by simp
  refine ⟨e, ?_, ?_⟩
  · rw [e, ez, ← Int.natCast_ediv, Nat.add_comm, Nat.add_mul_div_right _ _ hz, Nat.div_eq_of_lt hr, Nat.zero_add]
  · rw [e, ez, ← Int.natCast_emod, Nat.add_comm, Nat.add_mul_mod_self_right, Nat.mod_eq_of_lt hr]

theorem addrP_at {F : Nat → Fr} {k q r P y : Nat} {first : Int} (hP : P = q * 2 ^ k + r) (hr : r < 2 ^ k) (h : iter F q first = y) : addrP F k first P = (y : Int) * 2 ^ k + r := by
  have hz : 0 < 2 ^ k := Nat.two_pow_pos k
  have h1 : P / 2 ^ k = q := by rw [hP, Nat.add_comm, Nat.add_mul_div_right _ _ hz, Nat.div_eq_of_lt hr, Nat.zero_add]
  have h2 : P % 2 ^ k = r := by rw [hP, Nat.add_comm, Nat.add_mul_mod_self_right, Nat.mod_eq_of_lt hr]
  unfold addrP
  rw [h1, h2, h]

/-- What holds on the way along a chain to its place P. -/
def GoAt (F : Nat → Fr) (n : Nat) (first : Int) (m z P : Nat) (kk f at_ : Value) : Prop :=
  ∃ q y r x : Nat, f = .int .i64 y ∧ iter F q first = y ∧ y < n ∧ at_ = .int .i64 r ∧ r < z ∧ kk = .int .i64 x ∧ q * z + r + x = P ∧ q < m

end Go.Proofs.YthcfcciemjkilaaDoor
