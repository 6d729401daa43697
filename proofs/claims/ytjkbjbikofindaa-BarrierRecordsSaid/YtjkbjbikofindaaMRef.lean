/-
  Merged: Fresh, Same, Pool, Ch, Copy, Go.
-/
import Derived.Test.YtjkbjbikofindaaMVal
import Derived.Test.YtjkbjbikofindaaMBase
import Derived.BigQuiet
import Derived.Test.YtjkbjbikofindaaMRVal
import Derived.Test.YtjkbjbikofindaaMPure
import Derived.OwnWalk
import Derived.Laws.AppendOwnNone
import Derived.Deep.RegionHeld3
namespace Go.Proofs.Ytjkbjbikofindaa
set_option maxRecDepth 100000
open Go.RowKit
set_option linter.unusedVariables false

theorem drawn {B : Nat} {a w : World} (m : Nat) (h : Below B a w) : Below B a (w.drewN m) := h.trans ⟨rfl, rfl, rfl, Nat.le_refl _, fun _ _ => rfl⟩

end Go.Proofs.Ytjkbjbikofindaa

namespace Go.Proofs.Ytjkbjbikofindaa
set_option maxRecDepth 100000
open Go.RowKit
set_option linter.unusedVariables false

theorem after_drawn {w w' : World} (m : Nat) (h : Below w.heap.size w w') : Below w.heap.size w (w'.drewN m) := h.trans ⟨rfl, rfl, rfl, Nat.le_refl _, fun _ _ => rfl⟩

end Go.Proofs.Ytjkbjbikofindaa

namespace Go.Proofs.Ytjkbjbikofindaa
set_option maxRecDepth 100000
open Go.RowKit
set_option linter.unusedVariables false

theorem int_info : (Try.prog.info? 3).map (fun i => (i.zero, i.size, i.bytes)) = some (some (.int .i64 0), 1, 8) := by kernel_rfl
theorem row_slice {w : World} {base : Nat} {t : TypeId} {size n : Nat} {v : Value} {xs : List Value} (h : w.ownsRow base t size v n xs) : ∃ A c, v = .slice A n c ∧ n ≤ c := by
  obtain ⟨hl, h⟩ := h
  rcases h with ⟨rfl, rfl⟩ | ⟨g, cap, cur, rfl, hb, hg, hn, hm, hs, ht⟩
  · exact ⟨none, 0, rfl, Nat.le_refl _⟩
  · exact ⟨_, _, rfl, hn⟩
theorem row_block {w : World} {base : Nat} {t : TypeId} {size n : Nat} {v : Value} {xs : List Value} (h : w.ownsRow base t size v n xs) : ∀ k, v.ownBlock = some k → base ≤ k := by
  intro k hk
  obtain ⟨hl, h⟩ := h
  rcases h with ⟨rfl, rfl⟩ | ⟨g, cap, cur, rfl, hb, _⟩
  · simp [Value.ownBlock] at hk
  · simp [Value.ownBlock] at hk
    omega

/-- How many frames of 2 ^ k words n words need. -/
def ceilV (n k : Nat) : Nat := (n + 2 ^ k - 1) / 2 ^ k
theorem ceilV_cast (n k : Nat) : ((n : Int) + 2 ^ k - 1) / 2 ^ k = (ceilV n k : Nat) := by
  have h : 1 ≤ 2 ^ k := Nat.one_le_two_pow
  have e : ((2 ^ k : Nat) : Int) = (2 : Int) ^ k := by simp
  unfold ceilV
  rw [Int.natCast_ediv, ← e]
  congr 1
  omega

theorem ceil_any (n k : Nat) (w : World) (hn : n ≤ 65536) (hk : k ≤ 8) :
    Calls Try.prog 93 #[.int .i64 n, .int .i64 k] w fun e w' => e = .returned (.int .i64 (ceilV n k : Nat)) ∧ w = w' := by
  have p0 := pw_pos k
  have p1 := pw_bd hk
  have HC := Lib.hid (ceilV_cast n k)
  go_enter Try.func93, Try.ntmps93
  go_wp2
  go_ret
  exact ⟨ret_i64 HC.out, rfl⟩

theorem one_news {w : World} {g : Nat} {v : Value} (h : w.cell? ⟨g, 0, none⟩ = some v) : ∀ (j : Nat) (u : Value), [v][j]? = some u → w.cell? ((⟨g, 0, none⟩ : Addr).add j) = some u := by
  intro j u hu
  rcases j with _ | j
  · simp at hu
    subst hu
    rw [add_at]
    exact h
  · simp at hu

def FreeRow (F : Nat → Fr) (w : World) (i v : Value) (n : Nat) (wr : World) : Prop :=
  ∃ t : Nat, t ≤ n ∧ i = .int .i64 t ∧ (∃ xs, wr.ownsRow w.heap.size 3 1 v (freeN F t) xs) ∧ Below w.heap.size w wr

def SliceOf (N : Nat) (w : World) (e : Ending) (w' : World) : Prop := ∃ A c, e = .returned (.slice A N c) ∧ Below w.heap.size w w'

set_option maxHeartbeats 1000000 in
theorem refFree_any (s : Int) (V1 : Value) (A' : Option Addr) (n c' : Nat) (F : Nat → Fr) (w : World) (hT : Tab w w.heap.size A' n c' F) (hn : n ≤ 64) :
    Calls Try.prog 85 #[.agg #[.int .i64 s, V1, .slice A' n c']] w (SliceOf (freeN F n) w) := by
  obtain ⟨i0, hi0, hz0, hz1, hz2⟩ := info_parts int_info
  have HT := Lib.hid hT
  have HB0 : Hid (Below w.heap.size w (w.alloc (.cells #[.int .i64 s, V1, .slice A' n c'] 25))) := (Below.refl _ _).alloc (Nat.le_refl _) _
  clear hT
  go_enter Try.func85, Try.ntmps85
  go_wp2
  go_loopw [3, 4, 5, 9] (fun v _ _ i wr => FreeRow F w i v n wr) (fun _ _ _ i _ => n - (intOf i).toNat)
  case atStart => exact ⟨0, by omega, rfl, ⟨[], World.ownsRow_nil _ _ _ _⟩, HB0.out⟩
  case round =>
    obtain ⟨t, ht, rfl, ⟨xs, hown⟩, hb⟩ := hrel
    have HB := Lib.hid hb
    have HO := Lib.hid hown
    have hfl := freeN_le (F := F) t
    clear hb hown
    by_cases hlt : t < n
    · have hlt2 : 0 ≤ (t : Int) ∧ (t : Int) < n := by omega
      have HTR : Hid (Tab wr w.heap.size A' n c' F) := HT.out.below HB.out
      obtain ⟨b, o, rfl, hbb⟩ := HTR.out.base_ (by omega)
      obtain ⟨_, c0, c1, c2⟩ := HTR.out.cells t hlt
      have bz : b < wr.heap.size := by have := HB.out.size; omega
      obtain ⟨x, hx⟩ : ∃ x, x = (F t).ow := ⟨_, rfl⟩
      rw [← hx] at c0
      by_cases hx0 : x = -1
      · have hf : freeN F (t + 1) = freeN F t + 1 := by simp only [freeN]; rw [← hx, if_pos hx0]
        subst hx0
        have HF := Lib.hid hf
        clear hx hf
        have hob := row_block HO.out
        go_wp2_with (at_builtin; refine wpList_append_own _ rfl _ _ 27 rfl w.heap.size 3 i0 (.int .i64 0) 1 8 Try.underlying27 hi0 hz0 hz1 hz2 rfl (by decide) _ (freeN F t) xs rfl ((HO.out.alloc _).alloc _) ⟨wr.heap.size + 1, 0, none⟩ 1 1 [.int .i64 t] rfl rfl ?c1 (by simp [Value.oneCell']) (by simp only [maxLen]; omega) (by omega) ?c5 ?_)
        case c1 => exact one_news (by go_simp)
        case c5 => have := HB.out.size; simp; omega
        intro v' w1 hown' hgrow _
        have HN : Hid (∃ xs, w1.ownsRow w.heap.size 3 1 v' (freeN F (t + 1)) xs) := ⟨_, by rw [HF.out]; exact hown'⟩
        have HBN : Hid (Below w.heap.size w w1) := ((HB.out.alloc HB.out.size _).alloc (by simp; have := HB.out.size; omega) _).grown hgrow (by simp; have := HB.out.size; omega) hob
        clear hown' hgrow hob
        go_wp2
        refine ⟨⟨t + 1, by omega, by go_num, HN.out, HBN.out⟩, by simp [intOf]; omega⟩
      · have hf : freeN F (t + 1) = freeN F t := by simp only [freeN]; rw [← hx, if_neg hx0]; rfl
        have hb1 : (x == -1) = false := by simpa using hx0
        have HN : Hid (∃ xs, (wr.alloc (.cells #[.int .i64 x, .int .i64 (F t).st, .int .i64 (F t).nx] 61)).ownsRow w.heap.size 3 1 u3 (freeN F (t + 1)) xs) := ⟨xs, by rw [hf]; exact HO.out.alloc _⟩
        have HBN : Hid (Below w.heap.size w (wr.alloc (.cells #[.int .i64 x, .int .i64 (F t).st, .int .i64 (F t).nx] 61))) := HB.out.alloc HB.out.size _
        clear hx hf hx0
        go_wp2
        refine ⟨⟨t + 1, by omega, by go_num, HN.out, HBN.out⟩, by simp [intOf]; omega⟩
    · obtain rfl : n = t := by omega
      have hlt2 : ¬ (n : Int) < n := by omega
      obtain ⟨A, c, rfl, _⟩ := row_slice HO.out
      go_wp2
      go_ret
      exact ⟨A, c, rfl, HB.out⟩

/-- The least free frame. -/
def Least (F : Nat → Fr) (n f : Nat) : Prop := f < n ∧ (F f).ow = -1 ∧ ∀ j, j < f → (F j).ow ≠ -1

/-- What Lift does where a frame is free: the least one is taken, and only the table has turned. -/
def Lifts (F : Nat → Fr) (n : Nat) (o s : Int) (g base c : Nat) (w : World) (e : Ending) (w' : World) : Prop :=
  ∃ f, Least F n f ∧ e = .returned (.int .i64 f) ∧ OwnT w' base (some ⟨g, 0, none⟩) n c (lift F f o s) ∧ w.grownBy w' (some g)

set_option maxHeartbeats 1000000 in
theorem lift_any (s : Int) (V1 : Value) (g n c base : Nat) (F : Nat → Fr) (ow bt : Int) (w : World) (hT : OwnT w base (some ⟨g, 0, none⟩) n c F) (hn : n ≤ 64) (hf : 0 < freeN F n) (ho : 0 ≤ ow ∧ ow ≤ 4294967295) (hb : 0 ≤ bt ∧ bt < 4) :
    Calls Try.prog 86 #[.agg #[.int .i64 s, V1, .slice (some ⟨g, 0, none⟩) n c], .int .i64 ow, .int .i64 bt] w (Lifts F n ow (bt * 4294967296 + ow) g base c w) := by
  have HT := Lib.hid hT
  obtain ⟨U, hU⟩ : ∃ U, U = w.alloc (.cells #[.int .i64 s, V1, .slice (some ⟨g, 0, none⟩) n c] 25) := ⟨_, rfl⟩
  have BU : Blk U w.heap.size 25 #[.int .i64 s, V1, .slice (some ⟨g, 0, none⟩) n c] := by rw [hU]; exact Blk.new _ _ _
  have HBU : Hid (Below w.heap.size w U) := by rw [hU]; exact (Below.refl _ _).alloc (Nat.le_refl _) _
  have HU := Lib.hid hU
  have HF0 := Lib.hid hf
  clear hT hf hU
  go_enter Try.func86, Try.ntmps86
  go_wp2
  rw [← HU.out]
  go_loopw [7, 8, 12] (fun _ _ i wr => ∃ t : Nat, t ≤ n ∧ i = .int .i64 t ∧ (∀ j, j < t → (F j).ow ≠ -1) ∧ Below U.heap.size U wr) (fun _ _ i _ => n - (intOf i).toNat)
  case atStart => exact ⟨0, by omega, rfl, fun j hj => by omega, Below.refl _ _⟩
  case round =>
    obtain ⟨t, ht, rfl, hno, hb⟩ := hrel
    have HNO := Lib.hid hno
    have BR := BU.next hb
    have p2 := BR.cell 2
    simp at p2
    have wz : w.heap.size < wr.heap.size := BR.lt
    have HB : Hid (Below w.heap.size w wr) := below_next HBU.out (Nat.le_refl _) hb
    have HB2 := Lib.hid hb
    clear hno hb BR
    by_cases hlt : t < n
    · have hlt2 : 0 ≤ (t : Int) ∧ (t : Int) < n := by omega
      have HTR : Hid (OwnT wr base (some ⟨g, 0, none⟩) n c F) := HT.out.below HB.out
      obtain ⟨g1, g2, c0, c1, c2, f0, f1, f2, hnew, _⟩ := HTR.out.spotAt t hlt ⟨ow, bt * 4294967296 + ow, -1⟩
      have HNEW := Lib.hid hnew
      clear hnew
      obtain ⟨x, hx⟩ : ∃ x, x = (F t).ow := ⟨_, rfl⟩
      rw [← hx] at c0
      by_cases hx0 : x = -1
      · subst hx0
        have HX := Lib.hid hx
        have HL : Hid (OwnT (wr.alloc (.cells #[.int .i64 (-1), .int .i64 (F t).st, .int .i64 (F t).nx] 61)) base (some ⟨g, 0, none⟩) n c F) := HTR.out.below ((Below.refl _ _).alloc (Nat.le_refl _) _)
        have sm : 0 ≤ bt * 4294967296 ∧ bt * 4294967296 ≤ 12884901888 := by omega
        clear hx
        go_wp2
        go_ret
        exact ⟨t, ⟨hlt, HX.out.symm, HNO.out⟩, rfl, HNEW.out.below ((Below.refl _ _).alloc (Nat.le_refl _) _), turn_alloc (turn_set3 (turn_below HB.out) _ _ _ _ _ _) _⟩
      · have hb1 : (x == -1) = false := by simpa using hx0
        have HX : Hid ((F t).ow ≠ -1) := by rw [← hx]; exact hx0
        have HBN : Hid (Below U.heap.size U (wr.alloc (.cells #[.int .i64 x, .int .i64 (F t).st, .int .i64 (F t).nx] 61))) := HB2.out.alloc HB2.out.size _
        clear hx hx0
        go_wp2
        refine ⟨⟨t + 1, by omega, by go_num, fun j hj => ?_, HBN.out⟩, by simp [intOf]; omega⟩
        rcases (show j < t ∨ j = t by omega) with h | rfl
        · exact HNO.out j h
        · exact HX.out
    · exfalso
      have := freeN_none n (fun j hj => HNO.out j (by omega))
      have := HF0.out
      omega
end Go.Proofs.Ytjkbjbikofindaa

namespace Go.Proofs.Ytjkbjbikofindaa
open Go.RowKit
set_option maxRecDepth 100000
set_option linter.unusedVariables false

def chainList (F : Nat → Fr) (p m : Nat) : List Value := (List.range m).map fun i => .int .i64 (iter F i p)
theorem chainList_succ (F : Nat → Fr) (p m : Nat) : chainList F p (m + 1) = chainList F p m ++ [.int .i64 (iter F m p)] := by
  simp [chainList, List.range_succ]

/-- The chain from p, as a row of the call's own. -/
def ChainOf (F : Nat → Fr) (p : Nat) (w : World) (e : Ending) (w' : World) : Prop :=
  ∃ m v, e = .returned v ∧ iter F m p = -1 ∧ (∀ i, i < m → iter F i p ≠ -1) ∧ w'.ownsRow w.heap.size 3 1 v m (chainList F p m) ∧ Below w.heap.size w w'

set_option maxHeartbeats 1000000 in
theorem chain_any (s : Int) (V1 : Value) (A' : Option Addr) (n c' p : Nat) (F : Nat → Fr) (w : World) (hT : Tab w w.heap.size A' n c' F) (hn : n ≤ 64) (hv : FV F n) (hp : p < n) :
    Calls Try.prog 91 #[.agg #[.int .i64 s, V1, .slice A' n c'], .int .i64 p] w (ChainOf F p w) := by
  obtain ⟨i0, hi0, hz0, hz1, hz2⟩ := info_parts int_info
  have HT := Lib.hid hT
  have HV := Lib.hid hv
  obtain ⟨U, hU⟩ : ∃ U, U = w.alloc (.cells #[.int .i64 s, V1, .slice A' n c'] 25) := ⟨_, rfl⟩
  have BU : Blk U w.heap.size 25 #[.int .i64 s, V1, .slice A' n c'] := by rw [hU]; exact Blk.new _ _ _
  have HBU : Hid (Below w.heap.size w U) := by rw [hU]; exact (Below.refl _ _).alloc (Nat.le_refl _) _
  have HU := Lib.hid hU
  have zU : w.heap.size < U.heap.size := BU.lt
  clear hT hv hU
  go_enter Try.func91, Try.ntmps91
  go_wp2
  rw [← HU.out]
  go_loopw [5, 6] (fun v f wr => ∃ j : Nat, j ≤ n + 1 ∧ f = .int .i64 (iter F j p) ∧ (∀ i, i < j → iter F i p ≠ -1) ∧ wr.ownsRow U.heap.size 3 1 v j (chainList F p j) ∧ Below U.heap.size U wr ∧ (∃ A c, v = .slice A j c)) (fun v _ _ => match v with | .slice _ j _ => n + 2 - j | _ => 0)
  case atStart => exact ⟨0, by omega, rfl, fun i hi => by omega, World.ownsRow_nil _ _ _ _, Below.refl _ _, none, 0, rfl⟩
  case round =>
    obtain ⟨j, hj, rfl, hne, hown, hb, A, c, rfl⟩ := hrel
    have BR := BU.next hb
    have p2 := BR.cell 2
    simp at p2
    have HNE := Lib.hid hne
    have HO := Lib.hid hown
    have HB := Lib.hid hb
    have HBW : Hid (Below w.heap.size w wr) := below_next HBU.out (Nat.le_refl _) hb
    have wz : w.heap.size < wr.heap.size := BR.lt
    have zz : U.heap.size ≤ wr.heap.size := hb.size
    have ir := iter_in HV.out.inside hp j
    clear hne hown hb BR
    by_cases he : iter F j p = -1
    · have HE := Lib.hid he
      rw [he]
      clear he ir
      go_wp2
      go_ret
      exact ⟨j, _, rfl, HE.out, HNE.out, ⟨HO.out.1, HO.out.2.imp id (fun ⟨g, cap, cur, h1, h2, h3⟩ => ⟨g, cap, cur, h1, by omega, h3⟩)⟩, HBW.out⟩
    · obtain ⟨y, hy⟩ : ∃ y : Nat, iter F j p = y := ⟨(iter F j p).toNat, by omega⟩
      have y1 : y < n := by omega
      have hjn : j ≤ n := by
        rcases Nat.lt_or_ge n j with h | h
        · exact absurd (by rw [show j = n + 1 by omega]; exact HV.out.2.2 p hp) he
        · exact h
      have hb1 : ((y : Int) == -1) = false := by simp
      have yb : 0 ≤ (y : Int) ∧ (y : Int) < n := by omega
      have hnx : iter F (j + 1) p = (F y).nx := by rw [iter_succ, if_neg he, hy, Int.toNat_natCast]
      have HNX := Lib.hid hnx
      have HY := Lib.hid hy
      have HTR : Hid (Tab wr w.heap.size A' n c' F) := HT.out.below HBW.out
      obtain ⟨b, o, rfl, hbb⟩ := HTR.out.base_ (by omega)
      obtain ⟨_, _, _, c2⟩ := HTR.out.cells y y1
      have bz : b < wr.heap.size := by omega
      have hob := row_block HO.out
      rw [hy]
      clear hy he ir hnx
      go_wp2_with (at_builtin; refine wpList_append_own _ rfl _ _ 27 rfl U.heap.size 3 i0 (.int .i64 0) 1 8 Try.underlying27 hi0 hz0 hz1 hz2 rfl (by decide) _ j (chainList F p j) rfl (HO.out.alloc _) ⟨wr.heap.size, 0, none⟩ 1 1 [.int .i64 y] rfl rfl ?c1 (by simp [Value.oneCell']) (by simp only [maxLen]; omega) (by omega) ?c5 ?_)
      case c1 => exact one_news (by go_simp)
      case c5 => simp; omega
      intro v' w1 hown' hgrow _
      obtain ⟨A1, c1', rfl, _⟩ := row_slice hown'
      have hb1' : Below U.heap.size U w1 := (HB.out.alloc HB.out.size _).grown hgrow (by simp; omega) hob
      have p2' := (BU.next hb1').cell 2
      simp at p2'
      have c2' : w1.cell? ⟨b, o + y * 3 + 2, none⟩ = some (.int .i64 (F y).nx) := by
        rw [(below_next HBU.out (Nat.le_refl _) hb1').cell (p := ⟨b, o + y * 3 + 2, none⟩) hbb, ← HBW.out.cell (p := ⟨b, o + y * 3 + 2, none⟩) hbb]
        exact c2
      have HN : Hid (w1.ownsRow U.heap.size 3 1 (.slice A1 (j + 1) c1') (j + 1) (chainList F p (j + 1))) := by rw [chainList_succ, HY.out]; exact hown'
      have HBN := Lib.hid hb1'
      clear hown' hgrow hob hb1' p2 c2
      go_wp2
      refine ⟨⟨j + 1, by omega, by rw [HNX.out], fun i hi => ?_, HN.out, HBN.out, A1, c1', rfl⟩, by simp; omega⟩
      rcases (show i < j ∨ i = j by omega) with h | rfl
      · exact HNE.out i h
      · rw [HY.out]; omega

/-- An increment, by its fields. -/
def incV (sq bt fi la wo : Int) : Value := .agg #[.int .i64 sq, .int .i64 bt, .int .i64 fi, .int .i64 la, .int .i64 wo]

theorem frames_any (k wo : Nat) (V1 V2 : Value) (sq bt fi la : Int) (w : World) (hn : wo ≤ 65536) (hk : k ≤ 8) :
    Calls Try.prog 92 #[.agg #[.int .i64 k, V1, V2], .agg #[.int .i64 sq, .int .i64 bt, .int .i64 fi, .int .i64 la, .int .i64 wo]] w fun e w' => e = .returned (.int .i64 (ceilV wo k : Nat)) ∧ Below w.heap.size w w' := by
  go_enter Try.func92, Try.ntmps92
  go_wp2_with (go_at_call 93; refine (ceil_any wo k _ hn hk).mono ?_; rintro e w' ⟨rfl, rfl⟩)
  go_ret
  exact ⟨rfl, ((Below.refl _ _).alloc (Nat.le_refl _) _).alloc (by simp) _⟩

theorem ceilV_mono {a b : Nat} (k : Nat) (h : a ≤ b) : ceilV a k ≤ ceilV b k := by
  unfold ceilV
  exact Nat.div_le_div_right (by omega)
theorem ceilV_le {a k : Nat} (h : 1 ≤ 2 ^ k) : ceilV a k ≤ a := by
  unfold ceilV
  rcases Nat.eq_zero_or_pos a with rfl | ha
  · rw [Nat.div_eq_of_lt (by omega)]; exact Nat.le_refl _
  · refine Nat.div_le_of_le_mul ?_
    have := Nat.mul_le_mul h ha
    have h2 : 2 ^ k * a = (2 ^ k - 1) * a + a := by
      rw [← Nat.succ_mul]; congr 1; omega
    have h3 : (2 ^ k - 1) * 1 ≤ (2 ^ k - 1) * a := Nat.mul_le_mul_left _ ha
    omega

set_option maxHeartbeats 1000000 in
theorem extra_any (k wo d : Nat) (V1 V2 : Value) (sq bt fi la : Int) (w : World) (hn : wo ≤ 16384) (hd : d ≤ 48) (hk : k ≤ 8) :
    Calls Try.prog 84 #[.agg #[.int .i64 k, V1, V2], .agg #[.int .i64 sq, .int .i64 bt, .int .i64 fi, .int .i64 la, .int .i64 wo], .int .i64 d] w fun e w' => e = .returned (.int .i64 ((ceilV (wo + d) k - ceilV wo k : Nat))) ∧ Below w.heap.size w w' := by
  have hmono := ceilV_mono k (show wo ≤ wo + d by omega)
  have hle := ceilV_le (a := wo + d) (k := k) Nat.one_le_two_pow
  obtain ⟨W, hW⟩ : ∃ W, W = (w.alloc (.cells #[.int .i64 k, V1, V2] 25)).alloc (.cells #[.int .i64 sq, .int .i64 bt, .int .i64 fi, .int .i64 la, .int .i64 wo] 51) := ⟨_, rfl⟩
  have hBW : Below w.heap.size w W := by rw [hW]; exact ((Below.refl _ _).alloc (Nat.le_refl _) _).alloc (by simp) _
  have a0 : W.cell? ⟨w.heap.size, 0, none⟩ = some (.int .i64 k) := by rw [hW]; go_simp
  have a1 : W.cell? ⟨w.heap.size, 1, none⟩ = some V1 := by rw [hW]; go_simp
  have a2 : W.cell? ⟨w.heap.size, 2, none⟩ = some V2 := by rw [hW]; go_simp
  have b0 : W.cell? ⟨w.heap.size + 1, 0, none⟩ = some (.int .i64 sq) := by rw [hW]; go_simp
  have b1 : W.cell? ⟨w.heap.size + 1, 1, none⟩ = some (.int .i64 bt) := by rw [hW]; go_simp
  have b2 : W.cell? ⟨w.heap.size + 1, 2, none⟩ = some (.int .i64 fi) := by rw [hW]; go_simp
  have b3 : W.cell? ⟨w.heap.size + 1, 3, none⟩ = some (.int .i64 la) := by rw [hW]; go_simp
  have b4 : W.cell? ⟨w.heap.size + 1, 4, none⟩ = some (.int .i64 wo) := by rw [hW]; go_simp
  have z1 : w.heap.size < W.heap.size := by rw [hW]; simp; omega
  have z2 : w.heap.size + 1 < W.heap.size := by rw [hW]; simp
  have HW := Lib.hid hW
  have HBW := Lib.hid hBW
  have s1 : IntKind.i64.wrap ((wo : Int) + d) = ((wo + d : Nat) : Int) := by rw [IntWalk.i64_in _ (by omega)]; omega
  have s2 : IntKind.i64.wrap ((ceilV (wo + d) k : Nat) - (ceilV wo k : Nat) : Int) = ((ceilV (wo + d) k - ceilV wo k : Nat) : Int) := by rw [IntWalk.i64_in _ (by omega)]; omega
  have S2 := Lib.hid s2
  clear hW hBW s2
  go_enter Try.func84, Try.ntmps84
  go_wp2
  rw [← HW.out]
  go_region_held3 (fun w' => w'.cell? ⟨w.heap.size, 0, none⟩ = some (.int .i64 k) ∧ w'.cell? ⟨w.heap.size, 1, none⟩ = some V1 ∧ w'.cell? ⟨w.heap.size, 2, none⟩ = some V2 ∧ w'.cell? ⟨w.heap.size + 1, 0, none⟩ = some (.int .i64 sq) ∧ w'.cell? ⟨w.heap.size + 1, 1, none⟩ = some (.int .i64 bt) ∧ w'.cell? ⟨w.heap.size + 1, 2, none⟩ = some (.int .i64 fi) ∧ w'.cell? ⟨w.heap.size + 1, 3, none⟩ = some (.int .i64 la) ∧ w'.cell? ⟨w.heap.size + 1, 4, none⟩ = some (.int .i64 wo))
    (first | exact ⟨a0, a1, a2, b0, b1, b2, b3, b4⟩ | exact ⟨(hb1.cell (p := ⟨_, _, none⟩) z1).trans a0, (hb1.cell (p := ⟨_, _, none⟩) z1).trans a1, (hb1.cell (p := ⟨_, _, none⟩) z1).trans a2, (hb1.cell (p := ⟨_, _, none⟩) z2).trans b0, (hb1.cell (p := ⟨_, _, none⟩) z2).trans b1, (hb1.cell (p := ⟨_, _, none⟩) z2).trans b2, (hb1.cell (p := ⟨_, _, none⟩) z2).trans b3, (hb1.cell (p := ⟨_, _, none⟩) z2).trans b4⟩)
    (first
      | (go_at_call 93; refine (ceil_any (wo + d) k _ (by omega) hk).mono ?_; rintro e w' ⟨rfl, rfl⟩)
      | (go_at_call 92; refine (frames_any k wo V1 V2 sq bt fi la _ (by omega) hk).mono ?_; rintro e w1 ⟨rfl, hb1⟩))
  all_goals
    have HB1 := Lib.hid hb1
    clear hb1
    go_wp2
    go_ret
    exact ⟨ret_i64 S2.out, below_next HBW.out.drew (Nat.le_refl _) HB1.out⟩

/-- Some bool, and nothing that was there has turned. -/
def SomeBool (w : World) (e : Ending) (w' : World) : Prop := ∃ b, e = .returned (.bool b) ∧ Below w.heap.size w w'

theorem owns_any (s : Int) (V1 : Value) (A' : Option Addr) (n c' : Nat) (F : Nat → Fr) (sq : Int) (w : World) (hT : Tab w w.heap.size A' n c' F) (hn : n ≤ 64) :
    Calls Try.prog 63 #[.agg #[.int .i64 s, V1, .slice A' n c'], .int .i64 sq] w (SomeBool w) := by
  have HT := Lib.hid hT
  have HB0 : Hid (Below w.heap.size w (w.alloc (.cells #[.int .i64 s, V1, .slice A' n c'] 25))) := (Below.refl _ _).alloc (Nat.le_refl _) _
  clear hT
  go_enter Try.func63, Try.ntmps63
  go_wp2
  go_loopw [6, 10] (fun _ i wr => ∃ t : Nat, t ≤ n ∧ i = .int .i64 t ∧ Below w.heap.size w wr) (fun _ i _ => n - (intOf i).toNat)
  case atStart => exact ⟨0, by omega, rfl, HB0.out⟩
  case round =>
    obtain ⟨t, ht, rfl, hb⟩ := hrel
    have HB := Lib.hid hb
    clear hb
    by_cases hlt : t < n
    · have hlt2 : 0 ≤ (t : Int) ∧ (t : Int) < n := by omega
      have HTR : Hid (Tab wr w.heap.size A' n c' F) := HT.out.below HB.out
      obtain ⟨b, o, rfl, hbb⟩ := HTR.out.base_ (by omega)
      obtain ⟨_, c0, c1, c2⟩ := HTR.out.cells t hlt
      have bz : b < wr.heap.size := by have := HB.out.size; omega
      obtain ⟨x, hx⟩ : ∃ x, x = (F t).ow := ⟨_, rfl⟩
      rw [← hx] at c0
      clear hx
      by_cases hx0 : x = sq
      · subst hx0
        go_wp2
        go_ret
        exact ⟨_, rfl, HB.out.alloc HB.out.size _⟩
      · have hb1 : (x == sq) = false := by simpa using hx0
        have HBN : Hid (Below w.heap.size w (wr.alloc (.cells #[.int .i64 x, .int .i64 (F t).st, .int .i64 (F t).nx] 61))) := HB.out.alloc HB.out.size _
        clear hx0
        go_wp2
        exact ⟨⟨t + 1, by omega, by go_num, HBN.out⟩, by simp [intOf]; omega⟩
    · have hlt2 : ¬ (t : Int) < n := by omega
      go_wp2
      go_ret
      exact ⟨_, rfl, HB.out⟩
end Go.Proofs.Ytjkbjbikofindaa

namespace Go.Proofs.Ytjkbjbikofindaa
set_option maxRecDepth 100000
open Go.RowKit
set_option linter.unusedVariables false

/-- A slice of n words that read as f, made by the call. -/
def GivesOwn (n : Nat) (f : Nat → Int) (w : World) (e : Ending) (w' : World) : Prop :=
  ∃ A c, e = .returned (.slice A n c) ∧ Own w' w.heap.size A n c f ∧ Below w.heap.size w w'

theorem news_words {w : World} {B n c : Nat} {x : Addr} {f : Nat → Int} (h : Arr w B (some x) n c f) : ∀ j u, (wordsOf n f)[j]? = some u → w.cell? (x.add j) = some u := by
  intro j u hu
  obtain ⟨hj, rfl⟩ := wordsOf_get' hu
  obtain ⟨b, o, hA, _, hc⟩ := h.2.2.2 (by omega)
  injection hA with hA
  subst hA
  rw [add_at]
  exact hc j hj

theorem clone_any (A : Option Addr) (n c : Nat) (f : Nat → Int) (w : World) (h : Arr w w.heap.size A n c f) (hn : n ≤ 1048576) :
    Calls Try.prog 43 #[.slice A n c] w (GivesOwn n f w) := by
  obtain ⟨i0, hi0, hz0, hz1, hz2⟩ := info_parts word_info
  rcases A with _ | x
  · have hc : c = 0 := h.2.2.1 rfl
    have h1 := h.1
    obtain rfl : n = 0 := by omega
    subst hc
    clear h h1
    go_enter Try.func43, Try.ntmps43
    go_wp2_with (at_builtin; refine wpList_append_own_none _ rfl _ _ _ rfl w.heap.size 28 i0 _ Try.underlying22 hi0 hz0 (.slice none 0 0) 0 [] rfl (World.ownsRow_nil _ _ _ _) ?_)
    go_ret
    exact ⟨none, 0, rfl, Own.nil_ _ _ _, Below.refl _ _⟩
  · have hc := news_words h
    have HC := Lib.hid hc
    clear h hc
    go_enter Try.func43, Try.ntmps43
    go_wp2_with (at_builtin; refine wpList_append_own _ rfl _ _ 22 rfl w.heap.size 28 i0 _ 1 8 Try.underlying22 hi0 hz0 hz1 hz2 rfl (by decide) _ 0 [] rfl (World.ownsRow_nil _ _ _ _) x n c (wordsOf n f) rfl (by simp [wordsOf]) HC.out (wordsOf_one n f) (by simp only [maxLen]; omega) (by omega) (Nat.le_refl _) ?_)
    intro v1 w1 hown hg _
    obtain ⟨A1, c1, rfl, ho⟩ := own_of_row hown (fun j hj => wordsOf_get n f j hj)
    have HO := Lib.hid ho
    have HG := Lib.hid hg
    clear ho hg hown
    go_wp2
    go_ret
    exact ⟨A1, c1, rfl, HO.out, (Below.refl _ _).grown HG.out (Nat.le_refl _) (by simp [Value.ownBlock])⟩

/-- The cells of a table, one after the other. -/
def tabList (n : Nat) (F : Nat → Fr) : List Value := (List.range n).flatMap fun j => [.int .i64 (F j).ow, .int .i64 (F j).st, .int .i64 (F j).nx]
theorem tabList_succ (n : Nat) (F : Nat → Fr) : tabList (n + 1) F = tabList n F ++ [.int .i64 (F n).ow, .int .i64 (F n).st, .int .i64 (F n).nx] := by simp [tabList, List.range_succ]
theorem tabList_length : ∀ (n : Nat) (F : Nat → Fr), (tabList n F).length = n * 3
  | 0, F => rfl
  | n + 1, F => by rw [tabList_succ, List.length_append, tabList_length n F]; simp; omega
theorem tabList_get : ∀ (n : Nat) (F : Nat → Fr) (j : Nat), j < n → (tabList n F)[j * 3]? = some (.int .i64 (F j).ow) ∧ (tabList n F)[j * 3 + 1]? = some (.int .i64 (F j).st) ∧ (tabList n F)[j * 3 + 2]? = some (.int .i64 (F j).nx)
  | 0, F, j, h => absurd h (by omega)
  | n + 1, F, j, h => by
    have hl := tabList_length n F
    rw [tabList_succ]
    rcases (show j < n ∨ j = n by omega) with h1 | rfl
    · obtain ⟨a, b, c⟩ := tabList_get n F j h1
      rw [List.getElem?_append_left (by omega), List.getElem?_append_left (by omega), List.getElem?_append_left (by omega)]
      exact ⟨a, b, c⟩
    · rw [List.getElem?_append_right (by omega), List.getElem?_append_right (by omega), List.getElem?_append_right (by omega), hl]
      have e0 : j * 3 - j * 3 = 0 := by omega
      have e1 : j * 3 + 1 - j * 3 = 1 := by omega
      have e2 : j * 3 + 2 - j * 3 = 2 := by omega
      rw [e0, e1, e2]
      exact ⟨rfl, rfl, rfl⟩
theorem tabList_one (n : Nat) (F : Nat → Fr) : ∀ u ∈ tabList n F, u.oneCell' = true := by
  intro u hu
  simp only [tabList, List.mem_flatMap] at hu
  obtain ⟨j, _, hj⟩ := hu
  simp at hj
  rcases hj with rfl | rfl | rfl <;> rfl
theorem tabList_cells {w : World} {B n c b o : Nat} {F : Nat → Fr} (h : Tab w B (some ⟨b, o, none⟩) n c F) : ∀ j u, (tabList n F)[j]? = some u → w.cell? ((⟨b, o, none⟩ : Addr).add j) = some u := by
  intro j u hu
  have hl := tabList_length n F
  have hj : j < n * 3 := by
    rcases Nat.lt_or_ge j (n * 3) with h1 | h1
    · exact h1
    · rw [List.getElem?_eq_none (by omega)] at hu; cases hu
  obtain ⟨_, c0, c1, c2⟩ := h.cells (j / 3) (by omega)
  obtain ⟨g0, g1, g2⟩ := tabList_get n F (j / 3) (by omega)
  rw [add_at]
  rcases (show j = j / 3 * 3 ∨ j = j / 3 * 3 + 1 ∨ j = j / 3 * 3 + 2 by omega) with e | e | e
  · rw [e] at hu ⊢; rw [g0] at hu; injection hu with hu; rw [← hu]; exact c0
  · rw [e] at hu ⊢; rw [g1] at hu; injection hu with hu; rw [← hu, ← Nat.add_assoc]; exact c1
  · rw [e] at hu ⊢; rw [g2] at hu; injection hu with hu; rw [← hu, ← Nat.add_assoc]; exact c2

/-- What append leaves, as a table of the call's own. -/
theorem ownT_of_row {w : World} {base : Nat} {v : Value} {n : Nat} {F : Nat → Fr} (h : w.ownsRow base 61 3 v n (tabList n F)) (hn : 0 < n) :
    ∃ g c, v = .slice (some ⟨g, 0, none⟩) n c ∧ OwnT w base (some ⟨g, 0, none⟩) n c F := by
  obtain ⟨hl, h⟩ := h
  rcases h with ⟨rfl, rfl⟩ | ⟨g, cap, cur, rfl, hb, hg, hn2, hm, hs, ht⟩
  · omega
  · refine ⟨g, cap, rfl, hn2, hm, .inr ⟨g, cur, rfl, hb, hg, hs, fun j hj => ?_⟩⟩
    obtain ⟨g0, g1, g2⟩ := tabList_get n F j hj
    have key : ∀ (i : Nat) (u : Value), (tabList n F)[i]? = some u → cur[i]? = some u := by
      intro i u hu
      have hi : i < n * 3 := by
        rcases Nat.lt_or_ge i (n * 3) with h1 | h1
        · exact h1
        · rw [List.getElem?_eq_none (by rw [tabList_length]; omega)] at hu; cases hu
      rw [← ht, List.getElem?_take, if_pos hi] at hu
      simpa using hu
    exact ⟨key _ _ g0, key _ _ g1, key _ _ g2⟩

/-- A new space that reads as the old one. -/
def CopyOf (k : Int) (nw n : Nat) (wd : Nat → Int) (F : Nat → Fr) (w : World) (e : Ending) (w' : World) : Prop :=
  ∃ A c g c', e = .returned (.agg #[.int .i64 k, .slice A nw c, .slice (some ⟨g, 0, none⟩) n c']) ∧ Own w' w.heap.size A nw c wd ∧ OwnT w' w.heap.size (some ⟨g, 0, none⟩) n c' F ∧ Below w.heap.size w w'

set_option maxHeartbeats 1000000 in
theorem copy_any (k : Int) (A A' : Option Addr) (nw c n c' : Nat) (wd : Nat → Int) (F : Nat → Fr) (w : World) (hA : Arr w w.heap.size A nw c wd) (hT : Tab w w.heap.size A' n c' F) (hn : n ≤ 4096) (hn0 : 0 < n) (hw : nw ≤ 1048576) :
    Calls Try.prog 26 #[.agg #[.int .i64 k, .slice A nw c, .slice A' n c']] w (CopyOf k nw n wd F w) := by
  obtain ⟨i0, hi0, hz0, hz1, hz2⟩ := info_parts frame_info
  obtain ⟨b, o, rfl, hbb⟩ := hT.base_ hn0
  have HA := Lib.hid hA
  have HT := Lib.hid hT
  obtain ⟨U, hU⟩ : ∃ U, U = (w.alloc (.cells #[.int .i64 k, .slice A nw c, .slice (some ⟨b, o, none⟩) n c'] 25)).alloc (.cells #[.int .i64 0, .slice none 0 0, .slice none 0 0] 25) := ⟨_, rfl⟩
  have BU : Blk U w.heap.size 25 #[.int .i64 k, .slice A nw c, .slice (some ⟨b, o, none⟩) n c'] := by rw [hU]; exact (Blk.new _ _ _).alloc _
  have BR : Blk U (w.heap.size + 1) 25 #[.int .i64 0, .slice none 0 0, .slice none 0 0] := by rw [hU]; exact Blk.newAt _ _ _ _ (by simp)
  have HBU : Hid (Below w.heap.size w U) := by rw [hU]; exact ((Below.refl _ _).alloc (Nat.le_refl _) _).alloc (by simp) _
  have HU := Lib.hid hU
  have p0 := BU.cell 0
  have p1 := BU.cell 1
  have p2 := BU.cell 2
  simp at p0 p1 p2
  have z1 : w.heap.size < U.heap.size := BU.lt
  have z2 : w.heap.size + 1 < U.heap.size := BR.lt
  have hau : Arr U U.heap.size A nw c wd := HA.out.next HBU.out
  have HAD : Hid (Arr U.drew U.drew.heap.size A nw c wd) := hau
  clear hau
  have htu : Tab U U.heap.size (some ⟨b, o, none⟩) n c' F := HT.out.next HBU.out
  have HTD : Hid (Tab U.drew U.drew.heap.size (some ⟨b, o, none⟩) n c' F) := htu
  clear htu
  have BRD : Blk U.drew (w.heap.size + 1) 25 #[.int .i64 0, .slice none 0 0, .slice none 0 0] := BR
  clear hA hT hU
  go_enter Try.func26, Try.ntmps26
  go_wp2
  rw [← HU.out]
  go_region_held3 (fun w' => w'.cell? ⟨w.heap.size, 0, none⟩ = some (.int .i64 k) ∧ w'.cell? ⟨w.heap.size, 1, none⟩ = some (.slice A nw c) ∧ w'.cell? ⟨w.heap.size, 2, none⟩ = some (.slice (some ⟨b, o, none⟩) n c'))
    (first | exact ⟨p0, p1, p2⟩ | exact ⟨a0, a1, a2⟩ | exact ⟨b0, b1, b2⟩ | go_keep)
    (first
      | (go_at_call 43; refine (clone_any A nw c wd _ HAD.out hw).mono ?_; rintro e wa ⟨A1, c1, rfl, ho, hba⟩; have a0 := (hba.cell (p := ⟨w.heap.size, 0, none⟩) z1).trans p0; have a1 := (hba.cell (p := ⟨w.heap.size, 1, none⟩) z1).trans p1; have a2 := (hba.cell (p := ⟨w.heap.size, 2, none⟩) z1).trans p2; have za : w.heap.size < wa.heap.size := Nat.lt_of_lt_of_le z1 hba.size; have Ba := BRD.next hba; have zRa := Ba.lt; have ra0 := Ba.cell 0; have ra1 := Ba.cell 1; have ra2 := Ba.cell 2; simp at ra0 ra1 ra2; have fa0 := Ba.frozen 0; have fa1 := Ba.frozen 1; have fa2 := Ba.frozen 2)
      | (go_at_call 43; refine (clone_any A nw c wd _ (HAD.out.next hbb2) hw).mono ?_; rintro e wa ⟨A1, c1, rfl, ho, hba⟩; have a0 := (hba.cell (p := ⟨w.heap.size, 0, none⟩) zb).trans b0; have a1 := (hba.cell (p := ⟨w.heap.size, 1, none⟩) zb).trans b1; have a2 := (hba.cell (p := ⟨w.heap.size, 2, none⟩) zb).trans b2; have za : w.heap.size < wa.heap.size := Nat.lt_of_lt_of_le zb hba.size; have Ba := Bb.next hba; have zRa := Ba.lt; have ra0 := Ba.cell 0; have ra1 := Ba.cell 1; have ra2 := Ba.cell 2; simp at ra0 ra1 ra2; have fa0 := Ba.frozen 0; have fa1 := Ba.frozen 1; have fa2 := Ba.frozen 2)
      | (rw [if_pos (by rfl)]; refine wp_append_own _ (.const (.slice none 0 0)) (.tmp 9) 23 rfl U.drew.heap.size 61 i0 _ 3 24 Try.underlying23 hi0 hz0 hz1 hz2 rfl (by decide) (.slice none 0 0) 0 [] rfl (World.ownsRow_nil _ _ _ _) ⟨b, o, none⟩ n c' (tabList n F) rfl (tabList_length n F) (tabList_cells HTD.out) (tabList_one n F) (by simp only [maxLen]; omega) (by omega) (Nat.le_refl _) ?_; intro vb wb hown hgr _; rw [Nat.zero_add, List.nil_append] at hown; obtain ⟨gt, ct, rfl, htab⟩ := ownT_of_row hown hn0; have hbb2 := (Below.refl _ _).grown hgr (Nat.le_refl _) (by simp [Value.ownBlock]); have b0 := (hbb2.cell (p := ⟨w.heap.size, 0, none⟩) z1).trans p0; have b1 := (hbb2.cell (p := ⟨w.heap.size, 1, none⟩) z1).trans p1; have b2 := (hbb2.cell (p := ⟨w.heap.size, 2, none⟩) z1).trans p2; have zb : w.heap.size < wb.heap.size := Nat.lt_of_lt_of_le z1 hbb2.size; have Bb := BRD.next hbb2; have zRb := Bb.lt; have rb0 := Bb.cell 0; have rb1 := Bb.cell 1; have rb2 := Bb.cell 2; simp at rb0 rb1 rb2; have fb0 := Bb.frozen 0; have fb1 := Bb.frozen 1; have fb2 := Bb.frozen 2)
      | (rw [if_pos (by rfl)]; refine wp_append_own _ (.const (.slice none 0 0)) (.tmp 9) 23 rfl wa.heap.size 61 i0 _ 3 24 Try.underlying23 hi0 hz0 hz1 hz2 rfl (by decide) (.slice none 0 0) 0 [] rfl (World.ownsRow_nil _ _ _ _) ⟨b, o, none⟩ n c' (tabList n F) rfl (tabList_length n F) (tabList_cells (HTD.out.next hba)) (tabList_one n F) (by simp only [maxLen]; omega) (by omega) (Nat.le_refl _) ?_; intro vb wb hown hgr _; rw [Nat.zero_add, List.nil_append] at hown; obtain ⟨gt, ct, rfl, htab⟩ := ownT_of_row hown hn0; have hbb2 := (Below.refl _ _).grown hgr (Nat.le_refl _) (by simp [Value.ownBlock]); have b0 := (hbb2.cell (p := ⟨w.heap.size, 0, none⟩) za).trans a0; have b1 := (hbb2.cell (p := ⟨w.heap.size, 1, none⟩) za).trans a1; have b2 := (hbb2.cell (p := ⟨w.heap.size, 2, none⟩) za).trans a2; have zb : w.heap.size < wb.heap.size := Nat.lt_of_lt_of_le za hbb2.size; have Bb := Ba.next hbb2; have zRb := Bb.lt; have rb0 := Bb.cell 0; have rb1 := Bb.cell 1; have rb2 := Bb.cell 2; simp at rb0 rb1 rb2; have fb0 := Bb.frozen 0; have fb1 := Bb.frozen 1; have fb2 := Bb.frozen 2))
  have hud : Below w.heap.size w U.drew := HBU.out.drew
  have HBB := Lib.hid (below_next (below_next hud (Nat.le_refl _) hba) (Nat.le_refl _) hbb2)
  have hur : U.drew.heap.size ≤ wa.heap.size := hba.size
  have z3 : w.heap.size + 1 < wa.heap.size := Nat.lt_of_lt_of_le z2 hur
  have HO2 := Lib.hid (ho.below hbb2)
  have HTA := Lib.hid htab
  clear ho htab hba hbb2 hown hgr hud
  go_wp2
  refine bodyPost_ret (v := .agg #[.int .i64 k, .slice A1 nw c1, .slice (some ⟨gt, 0, none⟩) n ct]) (by simp [results, Try.results26, go_sem, rb0, rb1, rb2]) rfl ⟨_, _, _, _, rfl, ?_, ?_, ?_⟩
  · exact (HO2.out.put3 z2 _ _ _).lower (show w.heap.size ≤ U.drew.heap.size from Nat.le_of_lt z1)
  · exact (HTA.out.put3 z3 _ _ _).lower (Nat.le_of_lt za)
  · exact below_put3 HBB.out (by omega) _ _ _
end Go.Proofs.Ytjkbjbikofindaa

namespace Go.Proofs.Ytjkbjbikofindaa
set_option maxRecDepth 100000
open Go.RowKit
set_option linter.unusedVariables false

theorem addrP_split {F : Nat → Fr} {k y p : Nat} {first : Int} (h : iter F (p / 2 ^ k) first = y) :
    addrP F k first p = ((y * 2 ^ k + p % 2 ^ k : Nat) : Int) ∧ addrP F k first p / 2 ^ k = y ∧ addrP F k first p % 2 ^ k = ((p % 2 ^ k : Nat) : Int) := by
  have hz : 0 < 2 ^ k := Nat.two_pow_pos k
  have hr : p % 2 ^ k < 2 ^ k := Nat.mod_lt _ hz
  have e : addrP F k first p = ((y * 2 ^ k + p % 2 ^ k : Nat) : Int) := by
    unfold addrP
    rw [h]
    simp
  have ez : (2 : Int) ^ k = ((2 ^ k : Nat) : Int) := by simp
  refine ⟨e, ?_, ?_⟩
  · rw [e, ez, ← Int.natCast_ediv, Nat.add_comm, Nat.add_mul_div_right _ _ hz, Nat.div_eq_of_lt hr, Nat.zero_add]
  · rw [e, ez, ← Int.natCast_emod, Nat.add_comm, Nat.add_mul_mod_self_right, Nat.mod_eq_of_lt hr]

theorem addrP_at {F : Nat → Fr} {k q r P y : Nat} {first : Int} (hP : P = q * 2 ^ k + r) (hr : r < 2 ^ k) (h : iter F q first = y) : addrP F k first P = (y : Int) * 2 ^ k + r := by
  have hz : 0 < 2 ^ k := Nat.two_pow_pos k
  have h1 : P / 2 ^ k = q := by rw [hP, Nat.add_comm, Nat.add_mul_div_right _ _ hz, Nat.div_eq_of_lt hr, Nat.zero_add]
  have h2 : P % 2 ^ k = r := by rw [hP, Nat.add_comm, Nat.add_mul_mod_self_right, Nat.mod_eq_of_lt hr]
  unfold addrP
  rw [h1, h2, h]

/-- What holds on the way along a chain to its place P. -/
def GoAt (F : Nat → Fr) (n : Nat) (first : Int) (m z P : Nat) (kk f at_ : Value) : Prop :=
  ∃ q y r x : Nat, f = .int .i64 y ∧ iter F q first = y ∧ y < n ∧ at_ = .int .i64 r ∧ r < z ∧ kk = .int .i64 x ∧ q * z + r + x = P ∧ q < m

set_option maxHeartbeats 2000000 in
theorem go_pos (k : Nat) (A A' : Option Addr) (nw c n c' : Nat) (F : Nat → Fr) (first last o st : Int) (m p j : Nat) (w : World) (hT : Tab w w.heap.size A' n c' F) (hn : n ≤ 64) (hv : FV F n) (h1 : 3 ≤ k) (h2 : k ≤ 8) (hw : nw = n * 2 ^ k)
    (hc : ChainP F n first last m o st) (hs : stB st o = true) (hp : p + j < m * 2 ^ k) :
    Calls Try.prog 18 #[.agg #[.int .i64 k, .slice A nw c, .slice A' n c'], .int .i64 (addrP F k first p), .int .i64 j] w (Gives2 (addrP F k first (p + j)) 0 w) := by
  obtain ⟨z, hz⟩ : ∃ z, z = 2 ^ k := ⟨_, rfl⟩
  have z0 : 0 < z := by rw [hz]; exact Nat.two_pow_pos k
  have z1 : z ≤ 256 := by
    have := pw_bd h2
    have e : ((2 ^ k : Nat) : Int) = (2 : Int) ^ k := by simp
    omega
  have ez : (2 : Int) ^ k = z := by rw [hz]; simp
  have hqm : p / 2 ^ k < m := Nat.div_lt_of_lt_mul (by rw [Nat.mul_comm]; omega)
  obtain ⟨y, hy, hyn, hyo, _⟩ := hc.at_ hv hs hqm
  obtain ⟨e1, e2, e3⟩ := addrP_split hy
  have hmod : p % 2 ^ k < z := by rw [hz]; exact Nat.mod_lt _ (Nat.two_pow_pos k)
  have hyz : y * 2 ^ k + 2 ^ k ≤ n * 2 ^ k := by
    have := Nat.mul_le_mul_right (2 ^ k) (show y + 1 ≤ n by omega)
    rw [Nat.add_mul, Nat.one_mul] at this
    exact this
  have hnw := prod_le hn h2
  have hdm : p / 2 ^ k * z + p % 2 ^ k = p := by rw [hz]; exact Nat.div_add_mod' p (2 ^ k)
  obtain ⟨a, ha⟩ : ∃ a, a = addrP F k first p := ⟨_, rfl⟩
  rw [← ha] at e1 e2 e3 ⊢
  have a0 : 0 ≤ a := by omega
  have a1 : a < nw := by omega
  have o0 := (stB_yes hs).1
  have hlow := and_low' a k a0 (by omega) h2
  rw [e3] at hlow
  obtain ⟨r0, hr0⟩ : ∃ r, r = p % 2 ^ k := ⟨_, rfl⟩
  obtain ⟨q0, hq0⟩ : ∃ q, q = p / 2 ^ k := ⟨_, rfl⟩
  rw [← hr0] at hlow hmod hdm
  rw [← hq0] at hqm hy hdm
  have HLOW := Lib.hid hlow
  have HDIV := Lib.hid e2
  have HV := Lib.hid hv
  have HC := Lib.hid hc
  have HS := Lib.hid hs
  have HY := Lib.hid hy
  have HZ := Lib.hid hz
  have HEZ := Lib.hid ez
  have pz : 0 < (2 : Int) ^ k := pw_pos k
  have pz2 : (2 : Int) ^ k ≤ 256 := pw_bd h2
  have HT := Lib.hid hT
  obtain ⟨b, oo, rfl, hbb⟩ := hT.base_ (by omega)
  obtain ⟨_, c0, _, _⟩ := hT.cells y hyn
  rw [hyo] at c0
  have hneg : (o == -1) = false := by simp; omega
  have yi : 0 ≤ (y : Int) ∧ (y : Int) < n := by omega
  obtain ⟨U, hU⟩ : ∃ U, U = w.alloc (.cells #[.int .i64 k, .slice A nw c, .slice (some ⟨b, oo, none⟩) n c'] 25) := ⟨_, rfl⟩
  have BU : Blk U w.heap.size 25 #[.int .i64 k, .slice A nw c, .slice (some ⟨b, oo, none⟩) n c'] := by rw [hU]; exact Blk.new _ _ _
  have HBU : Hid (Below w.heap.size w U) := by rw [hU]; exact (Below.refl _ _).alloc (Nat.le_refl _) _
  have HU := Lib.hid hU
  have d0 : U.cell? ⟨b, oo + y * 3, none⟩ = some (.int .i64 o) := (HBU.out.cell (p := ⟨b, _, none⟩) hbb).trans c0
  have p0 := BU.cell 0
  have p1 := BU.cell 1
  have p2 := BU.cell 2
  simp at p0 p1 p2
  clear hT hv hc hs hy hz ez hU e1 e2 e3 ha hlow hr0 hq0 hw c0 hyz hyo
  go_enter Try.func18, Try.ntmps18
  go_wp2
  rw [← HU.out]
  go_quiet (fail)
  rw [HLOW.out, HDIV.out]
  go_wp2
  obtain ⟨V, hV⟩ : ∃ V, V = U.drewN nq := ⟨_, rfl⟩
  have BV : Blk V w.heap.size 25 #[.int .i64 k, .slice A nw c, .slice (some ⟨b, oo, none⟩) n c'] := by rw [hV]; exact BU
  have HBV : Hid (Below w.heap.size w V) := by rw [hV]; exact HBU.out.trans ⟨rfl, rfl, rfl, Nat.le_refl _, fun _ _ => rfl⟩
  rw [← hV]
  have p0 := BV.cell 0
  have p2 := BV.cell 2
  simp at p0 p2
  have HTV : Hid (Tab V w.heap.size (some ⟨b, oo, none⟩) n c' F) := HT.out.below HBV.out
  have ez := HEZ.out
  clear hV BU p1
  go_loop [2, 8, 9] (fun kk f at_ => GoAt F n first m z (p + j) kk f at_) (fun kk _ _ => (intOf kk).toNat)
  case atStart => exact ⟨q0, y, r0, j, rfl, HY.out, hyn, rfl, hmod, rfl, by omega, hqm⟩
  case round =>
    obtain ⟨q, y', r, x, rfl, hy', hyn', rfl, hr, rfl, hP, hqm'⟩ := hrel
    have HP := Lib.hid hP
    have HY' := Lib.hid hy'
    have hxb : x ≤ 1048576 := by
      have h3 : m ≤ n + 1 := by
        rcases Nat.lt_or_ge (n + 1) m with h | h
        · exfalso
          obtain ⟨q', hq', _⟩ := HC.out.at_ HV.out HS.out h
          rcases HC.out with ⟨hm0, _⟩ | ⟨_, pp, l, e1, hpp, _⟩
          · omega
          · rw [e1] at hq'
            have := HV.out.2.2 pp hpp
            omega
        · exact h
      have h4 : m * 2 ^ k ≤ 65 * 256 := Nat.mul_le_mul (by omega) (by rw [← HZ.out]; exact z1)
      omega
    clear hy'
    by_cases hx : z ≤ r + x
    · have hx2 : (z : Int) - r ≤ x := by omega
      have hq1 : q + 1 < m := by
        have e1 : (q + 1) * z = q * z + z := by rw [Nat.add_mul, Nat.one_mul]
        have e2 : m * 2 ^ k = m * z := by rw [HZ.out]
        rcases Nat.lt_or_ge (q + 1) m with h | h
        · exact h
        · have e3 := Nat.mul_le_mul_right z h
          omega
      obtain ⟨y2, hy2, hyn2, _, _⟩ := HC.out.at_ HV.out HS.out hq1
      have hnx : (F y').nx = y2 := by
        have e1 : iter F (q + 1) first = (F y').nx := by rw [iter_succ, HY'.out, if_neg (by omega), Int.toNat_natCast]
        rw [← e1]; exact hy2
      obtain ⟨_, _, _, c2⟩ := HTV.out.cells y' hyn'
      rw [hnx] at c2
      have yi' : 0 ≤ (y' : Int) ∧ (y' : Int) < n := by omega
      have hneg2 : ((y2 : Int) == -1) = false := by simp
      have HY2 := Lib.hid hy2
      have HP2 : Hid ((q + 1) * z + 0 + (x - (z - r)) = p + j) := by
        have e1 : (q + 1) * z = q * z + z := by rw [Nat.add_mul, Nat.one_mul]
        show (q + 1) * z + 0 + (x - (z - r)) = p + j
        have := HP.out
        omega
      clear hnx hy2 hP
      go_wp2
      refine ⟨⟨q + 1, y2, 0, x - (z - r), rfl, HY2.out, hyn2, rfl, z0, ?_, HP2.out, hq1⟩, by simp [intOf]; omega⟩
      exact congrArg (Value.int IntKind.i64) (by omega)
    · have hx2 : ¬ (z : Int) - r ≤ x := by omega
      have hres : addrP F k first (p + j) = (y' : Int) * 2 ^ k + ((r + x : Nat) : Int) := addrP_at (q := q) (by rw [← HZ.out]; have := HP.out; omega) (by rw [← HZ.out]; omega) HY'.out
      have HRES := Lib.hid hres
      have yz : 0 ≤ (y' : Int) * 2 ^ k ∧ (y' : Int) * 2 ^ k ≤ 16384 := prod_bd (by omega) h2
      rw [ez] at yz
      clear hres hP
      go_wp2
      go_ret2
      refine ⟨ret2 ?_ rfl, HBV.out⟩
      rw [HRES.out, ez]
      omega
end Go.Proofs.Ytjkbjbikofindaa
