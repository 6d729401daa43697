/-
  Contracts of the references of layers 5 and 9: Chain, Frames, Extra, Owns.
-/
import Derived.Test.YtpbcpobbjoopnaaPool
namespace Go.Proofs.Ytpbcpobbjoopnaa
open Go.RowKit
set_option maxRecDepth 100000
set_option linter.unusedVariables false

def chainList (F : Nat → Fr) (p m : Nat) : List Value := (List.range m).map fun i => .int .i64 (iter F i p)
theorem chainList_succ (F : Nat → Fr) (p m : Nat) : chainList F p (m + 1) = chainList F p m ++ [.int .i64 (iter F m p)] := by
  simp [chainList, List.range_succ]

/-- The chain from p, as a row of the call's own. -/
def ChainOf (F : Nat → Fr) (p : Nat) (w : World) (e : Ending) (w' : World) : Prop :=
  ∃ m v, e = .returned v ∧ iter F m p = -1 ∧ (∀ i, i < m → iter F i p ≠ -1) ∧ w'.ownsRow w.heap.size 3 1 v m (chainList F p m) ∧ Below w.heap.size w w'

set_option maxHeartbeats 1000000 in
theorem chain_any (s : Int) (V1 : Value) (A' : Option Addr) (n c' p : Nat) (F : Nat → Fr) (w : World) (hT : Tab w w.heap.size A' n c' F) (hn : n ≤ 64) (hv : FV F n) (hp : p < n) :
    Calls Try.prog 38 #[.agg #[.int .i64 s, V1, .slice A' n c'], .int .i64 p] w (ChainOf F p w) := by
  obtain ⟨i0, hi0, hz0, hz1, hz2⟩ := info_parts int_info
  have HT := Lib.hid hT
  have HV := Lib.hid hv
  obtain ⟨U, hU⟩ : ∃ U, U = w.alloc (.cells #[.int .i64 s, V1, .slice A' n c'] 25) := ⟨_, rfl⟩
  have BU : Blk U w.heap.size 25 #[.int .i64 s, V1, .slice A' n c'] := by rw [hU]; exact Blk.new _ _ _
  have HBU : Hid (Below w.heap.size w U) := by rw [hU]; exact (Below.refl _ _).alloc (Nat.le_refl _) _
  have HU := Lib.hid hU
  have zU : w.heap.size < U.heap.size := BU.lt
  clear hT hv hU
  go_enter Try.func38, Try.ntmps38
  go_wp2
  rw [← HU.out]
  go_loopw [5, 6] (fun v f wr => ∃ j : Nat, j ≤ n + 1 ∧ f = .int .i64 (iter F j p) ∧ (∀ i, i < j → iter F i p ≠ -1) ∧ wr.ownsRow U.heap.size 3 1 v j (chainList F p j) ∧ Below U.heap.size U wr ∧ (∃ A c, v = .slice A j c)) (fun v _ _ => match v with | .slice _ j _ => n + 2 - j | _ => 0)
  case atStart => exact ⟨0, by omega, rfl, fun i hi => by omega, World.ownsRow_nil _ _ _ _, Below.refl _ _, none, 0, rfl⟩
  case round =>
    obtain ⟨j, hj, rfl, hne, hown, hb, A, c, rfl⟩ := hrel
    have BR := BU.next hb
    have p2 := BR.cell 2
    simp at p2
    have HNE := Lib.hid hne
    have HO := Lib.hid hown
    have HB := Lib.hid hb
    have HBW : Hid (Below w.heap.size w wr) := below_next HBU.out (Nat.le_refl _) hb
    have wz : w.heap.size < wr.heap.size := BR.lt
    have zz : U.heap.size ≤ wr.heap.size := hb.size
    have ir := iter_in HV.out.inside hp j
    clear hne hown hb BR
    by_cases he : iter F j p = -1
    · have HE := Lib.hid he
      rw [he]
      clear he ir
      go_wp2
      go_ret
      exact ⟨j, _, rfl, HE.out, HNE.out, ⟨HO.out.1, HO.out.2.imp id (fun ⟨g, cap, cur, h1, h2, h3⟩ => ⟨g, cap, cur, h1, by omega, h3⟩)⟩, HBW.out⟩
    · obtain ⟨y, hy⟩ : ∃ y : Nat, iter F j p = y := ⟨(iter F j p).toNat, by omega⟩
      have y1 : y < n := by omega
      have hjn : j ≤ n := by
        rcases Nat.lt_or_ge n j with h | h
        · exact absurd (by rw [show j = n + 1 by omega]; exact HV.out.2.2 p hp) he
        · exact h
      have hb1 : ((y : Int) == -1) = false := by simp
      have yb : 0 ≤ (y : Int) ∧ (y : Int) < n := by omega
      have hnx : iter F (j + 1) p = (F y).nx := by rw [iter_succ, if_neg he, hy, Int.toNat_natCast]
      have HNX := Lib.hid hnx
      have HY := Lib.hid hy
      have HTR : Hid (Tab wr w.heap.size A' n c' F) := HT.out.below HBW.out
      obtain ⟨b, o, rfl, hbb⟩ := HTR.out.base_ (by omega)
      obtain ⟨_, _, _, c2⟩ := HTR.out.cells y y1
      have bz : b < wr.heap.size := by omega
      have hob := row_block HO.out
      rw [hy]
      clear hy he ir hnx
      go_wp2_with (at_builtin; refine wpList_append_own _ rfl _ _ 26 rfl U.heap.size 3 i0 (.int .i64 0) 1 8 Try.underlying26 hi0 hz0 hz1 hz2 rfl (by decide) _ j (chainList F p j) rfl (HO.out.alloc _) ⟨wr.heap.size, 0, none⟩ 1 1 [.int .i64 y] rfl rfl ?c1 (by simp [Value.oneCell']) (by simp only [maxLen]; omega) (by omega) ?c5 ?_)
      case c1 => exact one_news (by go_simp)
      case c5 => simp; omega
      intro v' w1 hown' hgrow _
      obtain ⟨A1, c1', rfl, _⟩ := row_slice hown'
      have hb1' : Below U.heap.size U w1 := (HB.out.alloc HB.out.size _).grown hgrow (by simp; omega) hob
      have p2' := (BU.next hb1').cell 2
      simp at p2'
      have c2' : w1.cell? ⟨b, o + y * 3 + 2, none⟩ = some (.int .i64 (F y).nx) := by
        rw [(below_next HBU.out (Nat.le_refl _) hb1').cell (p := ⟨b, o + y * 3 + 2, none⟩) hbb, ← HBW.out.cell (p := ⟨b, o + y * 3 + 2, none⟩) hbb]
        exact c2
      have HN : Hid (w1.ownsRow U.heap.size 3 1 (.slice A1 (j + 1) c1') (j + 1) (chainList F p (j + 1))) := by rw [chainList_succ, HY.out]; exact hown'
      have HBN := Lib.hid hb1'
      clear hown' hgrow hob hb1' p2 c2
      go_wp2
      refine ⟨⟨j + 1, by omega, by rw [HNX.out], fun i hi => ?_, HN.out, HBN.out, A1, c1', rfl⟩, by simp; omega⟩
      rcases (show i < j ∨ i = j by omega) with h | rfl
      · exact HNE.out i h
      · rw [HY.out]; omega

/-- An increment, by its fields. -/
def incV (sq bt fi la wo : Int) : Value := .agg #[.int .i64 sq, .int .i64 bt, .int .i64 fi, .int .i64 la, .int .i64 wo]

theorem frames_any (k wo : Nat) (V1 V2 : Value) (sq bt fi la : Int) (w : World) (hn : wo ≤ 65536) (hk : k ≤ 8) :
    Calls Try.prog 74 #[.agg #[.int .i64 k, V1, V2], .agg #[.int .i64 sq, .int .i64 bt, .int .i64 fi, .int .i64 la, .int .i64 wo]] w fun e w' => e = .returned (.int .i64 (ceilV wo k : Nat)) ∧ Below w.heap.size w w' := by
  go_enter Try.func74, Try.ntmps74
  go_wp2_with (go_at_call 75; refine (ceil_any wo k _ hn hk).mono ?_; rintro e w' ⟨rfl, rfl⟩)
  go_ret
  exact ⟨rfl, ((Below.refl _ _).alloc (Nat.le_refl _) _).alloc (by simp) _⟩

theorem ceilV_mono {a b : Nat} (k : Nat) (h : a ≤ b) : ceilV a k ≤ ceilV b k := by
  unfold ceilV
  exact Nat.div_le_div_right (by omega)
theorem ceilV_le {a k : Nat} (h : 1 ≤ 2 ^ k) : ceilV a k ≤ a := by
  unfold ceilV
  rcases Nat.eq_zero_or_pos a with rfl | ha
  · rw [Nat.div_eq_of_lt (by omega)]; exact Nat.le_refl _
  · refine Nat.div_le_of_le_mul ?_
    have := Nat.mul_le_mul h ha
    have h2 : 2 ^ k * a = (2 ^ k - 1) * a + a := by
      rw [← Nat.succ_mul]; congr 1; omega
    have h3 : (2 ^ k - 1) * 1 ≤ (2 ^ k - 1) * a := Nat.mul_le_mul_left _ ha
    omega

set_option maxHeartbeats 1000000 in
theorem extra_any (k wo d : Nat) (V1 V2 : Value) (sq bt fi la : Int) (w : World) (hn : wo ≤ 16384) (hd : d ≤ 48) (hk : k ≤ 8) :
    Calls Try.prog 70 #[.agg #[.int .i64 k, V1, V2], .agg #[.int .i64 sq, .int .i64 bt, .int .i64 fi, .int .i64 la, .int .i64 wo], .int .i64 d] w fun e w' => e = .returned (.int .i64 ((ceilV (wo + d) k - ceilV wo k : Nat))) ∧ Below w.heap.size w w' := by
  have hmono := ceilV_mono k (show wo ≤ wo + d by omega)
  have hle := ceilV_le (a := wo + d) (k := k) Nat.one_le_two_pow
  obtain ⟨W, hW⟩ : ∃ W, W = (w.alloc (.cells #[.int .i64 k, V1, V2] 25)).alloc (.cells #[.int .i64 sq, .int .i64 bt, .int .i64 fi, .int .i64 la, .int .i64 wo] 53) := ⟨_, rfl⟩
  have hBW : Below w.heap.size w W := by rw [hW]; exact ((Below.refl _ _).alloc (Nat.le_refl _) _).alloc (by simp) _
  have a0 : W.cell? ⟨w.heap.size, 0, none⟩ = some (.int .i64 k) := by rw [hW]; go_simp
  have a1 : W.cell? ⟨w.heap.size, 1, none⟩ = some V1 := by rw [hW]; go_simp
  have a2 : W.cell? ⟨w.heap.size, 2, none⟩ = some V2 := by rw [hW]; go_simp
  have b0 : W.cell? ⟨w.heap.size + 1, 0, none⟩ = some (.int .i64 sq) := by rw [hW]; go_simp
  have b1 : W.cell? ⟨w.heap.size + 1, 1, none⟩ = some (.int .i64 bt) := by rw [hW]; go_simp
  have b2 : W.cell? ⟨w.heap.size + 1, 2, none⟩ = some (.int .i64 fi) := by rw [hW]; go_simp
  have b3 : W.cell? ⟨w.heap.size + 1, 3, none⟩ = some (.int .i64 la) := by rw [hW]; go_simp
  have b4 : W.cell? ⟨w.heap.size + 1, 4, none⟩ = some (.int .i64 wo) := by rw [hW]; go_simp
  have z1 : w.heap.size < W.heap.size := by rw [hW]; simp; omega
  have z2 : w.heap.size + 1 < W.heap.size := by rw [hW]; simp
  have HW := Lib.hid hW
  have HBW := Lib.hid hBW
  have s1 : IntKind.i64.wrap ((wo : Int) + d) = ((wo + d : Nat) : Int) := by rw [IntWalk.i64_in _ (by omega)]; omega
  have s2 : IntKind.i64.wrap ((ceilV (wo + d) k : Nat) - (ceilV wo k : Nat) : Int) = ((ceilV (wo + d) k - ceilV wo k : Nat) : Int) := by rw [IntWalk.i64_in _ (by omega)]; omega
  have S2 := Lib.hid s2
  clear hW hBW s2
  go_enter Try.func70, Try.ntmps70
  go_wp2
  rw [← HW.out]
  go_region_held3 (fun w' => w'.cell? ⟨w.heap.size, 0, none⟩ = some (.int .i64 k) ∧ w'.cell? ⟨w.heap.size, 1, none⟩ = some V1 ∧ w'.cell? ⟨w.heap.size, 2, none⟩ = some V2 ∧ w'.cell? ⟨w.heap.size + 1, 0, none⟩ = some (.int .i64 sq) ∧ w'.cell? ⟨w.heap.size + 1, 1, none⟩ = some (.int .i64 bt) ∧ w'.cell? ⟨w.heap.size + 1, 2, none⟩ = some (.int .i64 fi) ∧ w'.cell? ⟨w.heap.size + 1, 3, none⟩ = some (.int .i64 la) ∧ w'.cell? ⟨w.heap.size + 1, 4, none⟩ = some (.int .i64 wo))
    (first | exact ⟨a0, a1, a2, b0, b1, b2, b3, b4⟩ | exact ⟨(hb1.cell (p := ⟨_, _, none⟩) z1).trans a0, (hb1.cell (p := ⟨_, _, none⟩) z1).trans a1, (hb1.cell (p := ⟨_, _, none⟩) z1).trans a2, (hb1.cell (p := ⟨_, _, none⟩) z2).trans b0, (hb1.cell (p := ⟨_, _, none⟩) z2).trans b1, (hb1.cell (p := ⟨_, _, none⟩) z2).trans b2, (hb1.cell (p := ⟨_, _, none⟩) z2).trans b3, (hb1.cell (p := ⟨_, _, none⟩) z2).trans b4⟩)
    (first
      | (go_at_call 75; refine (ceil_any (wo + d) k _ (by omega) hk).mono ?_; rintro e w' ⟨rfl, rfl⟩)
      | (go_at_call 74; refine (frames_any k wo V1 V2 sq bt fi la _ (by omega) hk).mono ?_; rintro e w1 ⟨rfl, hb1⟩))
  all_goals
    have HB1 := Lib.hid hb1
    clear hb1
    go_wp2
    go_ret
    exact ⟨ret_i64 S2.out, below_next HBW.out.drew (Nat.le_refl _) HB1.out⟩

/-- Some bool, and nothing that was there has turned. -/
def SomeBool (w : World) (e : Ending) (w' : World) : Prop := ∃ b, e = .returned (.bool b) ∧ Below w.heap.size w w'

theorem owns_any (s : Int) (V1 : Value) (A' : Option Addr) (n c' : Nat) (F : Nat → Fr) (sq : Int) (w : World) (hT : Tab w w.heap.size A' n c' F) (hn : n ≤ 64) :
    Calls Try.prog 61 #[.agg #[.int .i64 s, V1, .slice A' n c'], .int .i64 sq] w (SomeBool w) := by
  have HT := Lib.hid hT
  have HB0 : Hid (Below w.heap.size w (w.alloc (.cells #[.int .i64 s, V1, .slice A' n c'] 25))) := (Below.refl _ _).alloc (Nat.le_refl _) _
  clear hT
  go_enter Try.func61, Try.ntmps61
  go_wp2
  go_loopw [6, 10] (fun _ i wr => ∃ t : Nat, t ≤ n ∧ i = .int .i64 t ∧ Below w.heap.size w wr) (fun _ i _ => n - (intOf i).toNat)
  case atStart => exact ⟨0, by omega, rfl, HB0.out⟩
  case round =>
    obtain ⟨t, ht, rfl, hb⟩ := hrel
    have HB := Lib.hid hb
    clear hb
    by_cases hlt : t < n
    · have hlt2 : 0 ≤ (t : Int) ∧ (t : Int) < n := by omega
      have HTR : Hid (Tab wr w.heap.size A' n c' F) := HT.out.below HB.out
      obtain ⟨b, o, rfl, hbb⟩ := HTR.out.base_ (by omega)
      obtain ⟨_, c0, c1, c2⟩ := HTR.out.cells t hlt
      have bz : b < wr.heap.size := by have := HB.out.size; omega
      obtain ⟨x, hx⟩ : ∃ x, x = (F t).ow := ⟨_, rfl⟩
      rw [← hx] at c0
      clear hx
      by_cases hx0 : x = sq
      · subst hx0
        go_wp2
        go_ret
        exact ⟨_, rfl, HB.out.alloc HB.out.size _⟩
      · have hb1 : (x == sq) = false := by simpa using hx0
        have HBN : Hid (Below w.heap.size w (wr.alloc (.cells #[.int .i64 x, .int .i64 (F t).st, .int .i64 (F t).nx] 64))) := HB.out.alloc HB.out.size _
        clear hx0
        go_wp2
        exact ⟨⟨t + 1, by omega, by go_num, HBN.out⟩, by simp [intOf]; omega⟩
    · have hlt2 : ¬ (t : Int) < n := by omega
      go_wp2
      go_ret
      exact ⟨_, rfl, HB.out⟩
end Go.Proofs.Ytpbcpobbjoopnaa
