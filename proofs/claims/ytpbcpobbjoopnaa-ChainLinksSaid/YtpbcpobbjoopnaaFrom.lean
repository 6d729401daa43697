/-
  Contracts of package chain's own functions: framesFrom, isFrame, isFree, follows, clone; of slices: Index, Contains, IndexFunc, ContainsFunc; of the reference: Chain, outside.
-/
import Derived.Test.YtpbcpobbjoopnaaCh
import Derived.Test.YtpbcpobbjoopnaaClonep
import Derived.Test.YtpbcpobbjoopnaaPath
namespace Go.Proofs.Ytpbcpobbjoopnaa
open Go.RowKit
set_option maxRecDepth 100000
set_option linter.unusedVariables false

theorem chainList_numL {F : Nat → Fr} {n p m : Nat} (h : FV F n) (hp : p < n) (hl : LenP F p m) : chainList F p m = numL (chL F n p) := by
  have hlen := chL_length hl (hl.bound h rfl hp)
  refine List.ext_getElem? fun i => ?_
  rcases Nat.lt_or_ge i m with hi | hi
  · have h1 := chL_get h hp hl hi
    have h2 := h.nonneg hp (hl.2 i hi)
    simp only [chainList, numL, List.getElem?_map, h1, List.getElem?_range hi, Option.map_some]
    congr 2
    omega
  · rw [List.getElem?_eq_none (by simp [chainList]; exact hi), List.getElem?_eq_none (by simp [numL]; omega)]
theorem ChainOf.nums {F : Nat → Fr} {n p : Nat} {w w' : World} {e : Ending} (h : ChainOf F p w e w') (hv : FV F n) (hp : p < n) : GivesNums (chL F n p) w e w' := by
  obtain ⟨m, v, rfl, h1, h2, hown, hb⟩ := h
  rw [chainList_numL hv hp ⟨h1, h2⟩] at hown
  obtain ⟨A, c, rfl, hn, hlen⟩ := nums_of_row hown
  subst hlen
  exact ⟨A, c, rfl, hn, hb⟩

set_option maxHeartbeats 1000000 in
theorem framesFrom_row (s : Int) (V1 : Value) (A' : Option Addr) (n c' p : Nat) (F : Nat → Fr) (w : World) (hT : Tab w w.heap.size A' n c' F) (hn : n ≤ 64) (hv : FV F n) (hp : p < n) :
    Calls Try.prog 37 #[.agg #[.int .i64 s, V1, .slice A' n c'], .int .i64 p] w (ChainOf F p w) := by
  obtain ⟨i0, hi0, hz0, hz1, hz2⟩ := info_parts int_info
  have HT := Lib.hid hT
  have HV := Lib.hid hv
  obtain ⟨U, hU⟩ : ∃ U, U = w.alloc (.cells #[.int .i64 s, V1, .slice A' n c'] 25) := ⟨_, rfl⟩
  have BU : Blk U w.heap.size 25 #[.int .i64 s, V1, .slice A' n c'] := by rw [hU]; exact Blk.new _ _ _
  have HBU : Hid (Below w.heap.size w U) := by rw [hU]; exact (Below.refl _ _).alloc (Nat.le_refl _) _
  have HU := Lib.hid hU
  have zU : w.heap.size < U.heap.size := BU.lt
  clear hT hv hU
  go_enter Try.func37, Try.ntmps37
  go_wp2
  rw [← HU.out]
  go_loopw [5, 6] (fun v f wr => ∃ j : Nat, j ≤ n + 1 ∧ f = .int .i64 (iter F j p) ∧ (∀ i, i < j → iter F i p ≠ -1) ∧ wr.ownsRow U.heap.size 3 1 v j (chainList F p j) ∧ Below U.heap.size U wr ∧ (∃ A c, v = .slice A j c)) (fun v _ _ => match v with | .slice _ j _ => n + 2 - j | _ => 0)
  case atStart => exact ⟨0, by omega, rfl, fun i hi => by omega, World.ownsRow_nil _ _ _ _, Below.refl _ _, none, 0, rfl⟩
  case round =>
    obtain ⟨j, hj, rfl, hne, hown, hb, A, c, rfl⟩ := hrel
    have BR := BU.next hb
    have p2 := BR.cell 2
    simp at p2
    have HNE := Lib.hid hne
    have HO := Lib.hid hown
    have HB := Lib.hid hb
    have HBW : Hid (Below w.heap.size w wr) := below_next HBU.out (Nat.le_refl _) hb
    have wz : w.heap.size < wr.heap.size := BR.lt
    have zz : U.heap.size ≤ wr.heap.size := hb.size
    have ir := iter_in HV.out.inside hp j
    clear hne hown hb BR
    by_cases he : iter F j p = -1
    · have HE := Lib.hid he
      rw [he]
      clear he ir
      go_wp2
      go_ret
      exact ⟨j, _, rfl, HE.out, HNE.out, ⟨HO.out.1, HO.out.2.imp id (fun ⟨g, cap, cur, h1, h2, h3⟩ => ⟨g, cap, cur, h1, by omega, h3⟩)⟩, HBW.out⟩
    · obtain ⟨y, hy⟩ : ∃ y : Nat, iter F j p = y := ⟨(iter F j p).toNat, by omega⟩
      have y1 : y < n := by omega
      have hjn : j ≤ n := by
        rcases Nat.lt_or_ge n j with h | h
        · exact absurd (by rw [show j = n + 1 by omega]; exact HV.out.2.2 p hp) he
        · exact h
      have hb1 : ((y : Int) == -1) = false := by simp
      have yb : 0 ≤ (y : Int) ∧ (y : Int) < n := by omega
      have hnx : iter F (j + 1) p = (F y).nx := by rw [iter_succ, if_neg he, hy, Int.toNat_natCast]
      have HNX := Lib.hid hnx
      have HY := Lib.hid hy
      have HTR : Hid (Tab wr w.heap.size A' n c' F) := HT.out.below HBW.out
      obtain ⟨b, o, rfl, hbb⟩ := HTR.out.base_ (by omega)
      obtain ⟨_, _, _, c2⟩ := HTR.out.cells y y1
      have bz : b < wr.heap.size := by omega
      have hob := row_block HO.out
      rw [hy]
      clear hy he ir hnx
      go_wp2_with (at_builtin; refine wpList_append_own _ rfl _ _ 26 rfl U.heap.size 3 i0 (.int .i64 0) 1 8 Try.underlying26 hi0 hz0 hz1 hz2 rfl (by decide) _ j (chainList F p j) rfl (HO.out.alloc _) ⟨wr.heap.size, 0, none⟩ 1 1 [.int .i64 y] rfl rfl ?c1 (by simp [Value.oneCell']) (by simp only [maxLen]; omega) (by omega) ?c5 ?_)
      case c1 => exact one_news (by go_simp)
      case c5 => simp; omega
      intro v' w1 hown' hgrow _
      obtain ⟨A1, c1', rfl, _⟩ := row_slice hown'
      have hb1' : Below U.heap.size U w1 := (HB.out.alloc HB.out.size _).grown hgrow (by simp; omega) hob
      have p2' := (BU.next hb1').cell 2
      simp at p2'
      have c2' : w1.cell? ⟨b, o + y * 3 + 2, none⟩ = some (.int .i64 (F y).nx) := by
        rw [(below_next HBU.out (Nat.le_refl _) hb1').cell (p := ⟨b, o + y * 3 + 2, none⟩) hbb, ← HBW.out.cell (p := ⟨b, o + y * 3 + 2, none⟩) hbb]
        exact c2
      have HN : Hid (w1.ownsRow U.heap.size 3 1 (.slice A1 (j + 1) c1') (j + 1) (chainList F p (j + 1))) := by rw [chainList_succ, HY.out]; exact hown'
      have HBN := Lib.hid hb1'
      clear hown' hgrow hob hb1' p2 c2
      go_wp2
      refine ⟨⟨j + 1, by omega, by rw [HNX.out], fun i hi => ?_, HN.out, HBN.out, A1, c1', rfl⟩, by simp; omega⟩
      rcases (show i < j ∨ i = j by omega) with h | rfl
      · exact HNE.out i h
      · rw [HY.out]; omega

theorem framesFrom_any (s : Int) (V1 : Value) (A' : Option Addr) (n c' p : Nat) (F : Nat → Fr) (w : World) (hT : Tab w w.heap.size A' n c' F) (hn : n ≤ 64) (hv : FV F n) (hp : p < n) :
    Calls Try.prog 37 #[.agg #[.int .i64 s, V1, .slice A' n c'], .int .i64 p] w (GivesNums (chL F n p) w) :=
  (framesFrom_row s V1 A' n c' p F w hT hn hv hp).mono fun _ _ h => h.nums hv hp
theorem refChain_any (s : Int) (V1 : Value) (A' : Option Addr) (n c' p : Nat) (F : Nat → Fr) (w : World) (hT : Tab w w.heap.size A' n c' F) (hn : n ≤ 64) (hv : FV F n) (hp : p < n) :
    Calls Try.prog 38 #[.agg #[.int .i64 s, V1, .slice A' n c'], .int .i64 p] w (GivesNums (chL F n p) w) :=
  (chain_any s V1 A' n c' p F w hT hn hv hp).mono fun _ _ h => h.nums hv hp

/-! Numbers of frames. -/
theorem isFrame5_any (s : Int) (V1 : Value) (A : Option Addr) (n c : Nat) (f : Int) (w : World) :
    Calls Try.prog 32 #[.agg #[.int .i64 s, V1, .slice A n c], .int .i64 f] w fun e w' => e = .returned (.bool (inB n f)) ∧ Below w.heap.size w w' := by
  by_cases h1 : 0 ≤ f
  · by_cases h2 : f < (n : Int)
    all_goals
      go_enter Try.func32, Try.ntmps32
      go_wp2
      go_ret
      exact ⟨ret_bool (by simp [inB, h1]; try omega), (Below.refl _ _).alloc (Nat.le_refl _) _⟩
  · go_enter Try.func32, Try.ntmps32
    go_wp2
    go_ret
    exact ⟨ret_bool (by simp [inB]; omega), (Below.refl _ _).alloc (Nat.le_refl _) _⟩
theorem outside_any (s : Int) (V1 : Value) (A : Option Addr) (n c : Nat) (f : Int) (w : World) :
    Calls Try.prog 35 #[.agg #[.int .i64 s, V1, .slice A n c], .int .i64 f] w fun e w' => e = .returned (.bool (!inB n f)) ∧ Below w.heap.size w w' := by
  by_cases h1 : f < 0
  · go_enter Try.func35, Try.ntmps35
    go_wp2
    go_ret
    exact ⟨ret_bool (by simp [inB]; omega), (Below.refl _ _).alloc (Nat.le_refl _) _⟩
  · by_cases h2 : (n : Int) ≤ f
    · go_enter Try.func35, Try.ntmps35
      go_wp2
      go_ret
      exact ⟨ret_bool (by simp [inB]; omega), (Below.refl _ _).alloc (Nat.le_refl _) _⟩
    · go_enter Try.func35, Try.ntmps35
      go_wp2
      go_ret
      exact ⟨ret_bool (by simp [inB]; omega), (Below.refl _ _).alloc (Nat.le_refl _) _⟩
theorem isFree5_any (s : Int) (V1 : Value) (A' : Option Addr) (n c' f : Nat) (F : Nat → Fr) (w : World) (hT : Tab w w.heap.size A' n c' F) (hf : f < n) :
    Calls Try.prog 36 #[.agg #[.int .i64 s, V1, .slice A' n c'], .int .i64 f] w fun e w' => e = .returned (.bool (decide ((F f).ow = -1))) ∧ Below w.heap.size w w' := by
  obtain ⟨b, o, rfl, hbb⟩ := hT.base_ (by omega)
  obtain ⟨_, c0, _, _⟩ := hT.cells f hf
  have hf2 : 0 ≤ (f : Int) ∧ (f : Int) < n := by omega
  obtain ⟨x, hx⟩ : ∃ x, x = (F f).ow := ⟨_, rfl⟩
  rw [← hx] at c0 ⊢
  have hbw : Below w.heap.size w (w.alloc (.cells #[.int .i64 s, V1, .slice (some ⟨b, o, none⟩) n c'] 25)) := (Below.refl _ _).alloc (Nat.le_refl _) _
  have d0 := (hbw.cell (p := ⟨b, o + f * 3, none⟩) hbb).trans c0
  have HB := Lib.hid hbw
  clear hT hx c0 hbw
  by_cases e : x = -1
  · have hb : (x == -1) = true := by simpa using e
    have HD := Lib.hid (show decide (x = -1) = true from decide_eq_true e)
    rw [HD.out]
    clear e
    go_enter Try.func36, Try.ntmps36
    go_wp2
    go_ret
    exact ⟨rfl, HB.out⟩
  · have hb : (x == -1) = false := by simpa using e
    have HD := Lib.hid (show decide (x = -1) = false from decide_eq_false e)
    rw [HD.out]
    clear e
    go_enter Try.func36, Try.ntmps36
    go_wp2
    go_ret
    exact ⟨rfl, HB.out⟩

/-! slices.Contains at numbers. -/
theorem index_any (A : Option Addr) (n c : Nat) (f : Nat → Int) (x : Int) (w : World) (h : Nums w w.heap.size A n c f) (hn : n ≤ 4096) :
    Calls Try.prog 68 #[.slice A n c, .int .i64 x] w fun e w' => (∃ k : Int, e = .returned (.int .i64 k) ∧ -1 ≤ k ∧ (0 ≤ k ↔ ∃ j, j < n ∧ f j = x)) ∧ Below w.heap.size w w' := by
  have H := Lib.hid h
  clear h
  go_enter Try.func68, Try.ntmps68
  go_wp2
  go_loopw [5, 8] (fun _ i wr => ∃ t : Nat, t ≤ n ∧ i = .int .i64 t ∧ (∀ j, j < t → f j ≠ x) ∧ wr = w) (fun _ i _ => n - (intOf i).toNat)
  case atStart => exact ⟨0, Nat.zero_le _, rfl, fun j hj => absurd hj (Nat.not_lt_zero j), rfl⟩
  case round =>
    obtain ⟨t, ht, rfl, hno, rfl⟩ := hrel
    have HN := Lib.hid hno
    clear hno
    by_cases hlt : t < n
    · obtain ⟨b, o, rfl, hb, hc1⟩ := H.out.at_ t hlt
      have hx : 0 ≤ (t : Int) ∧ (t : Int) < n := by omega
      obtain ⟨y, hy⟩ : ∃ y, y = f t := ⟨_, rfl⟩
      rw [← hy] at hc1
      by_cases e : x = y
      · have hq : (x == y) = true := by simpa using e
        have HF := Lib.hid (show f t = x by rw [← hy, e])
        clear hy e
        go_wp2
        go_ret
        exact ⟨⟨t, rfl, by omega, ⟨fun _ => ⟨t, hlt, HF.out⟩, fun _ => by omega⟩⟩, Below.refl _ _⟩
      · have hq : (x == y) = false := by simpa using e
        have HF := Lib.hid (show f t ≠ x by rw [← hy]; exact fun h => e h.symm)
        clear hy e
        go_wp2
        refine ⟨⟨t + 1, by omega, by go_num, fun j hj => ?_, trivial⟩, by simp [intOf]; omega⟩
        rcases (show j < t ∨ j = t by omega) with h1 | rfl
        · exact HN.out j h1
        · exact HF.out
    · have hx : ¬ (t : Int) < n := by omega
      go_wp2
      go_ret
      exact ⟨⟨-1, rfl, by omega, ⟨fun h => absurd h (by decide), fun ⟨j, hj, he⟩ => absurd he (HN.out j (by omega))⟩⟩, Below.refl _ _⟩
theorem contains_any (A : Option Addr) (c : Nat) (l : List Nat) (x : Nat) (w : World) (h : Nums w w.heap.size A l.length c (numF l)) (hn : l.length ≤ 4096) :
    Calls Try.prog 55 #[.slice A l.length c, .int .i64 x] w fun e w' => e = .returned (.bool (decide (x ∈ l))) ∧ Below w.heap.size w w' := by
  have key : (∃ j, j < l.length ∧ numF l j = (x : Int)) ↔ x ∈ l := by
    constructor
    · rintro ⟨j, hj, he⟩
      have : l[j]? = some x := by
        unfold numF at he
        rw [List.getD_eq_getElem?_getD, List.getElem?_eq_getElem hj] at he
        rw [List.getElem?_eq_getElem hj]
        simp at he
        exact congrArg some (by omega)
      exact List.mem_of_getElem? this
    · intro hm
      obtain ⟨j, hj, he⟩ := List.mem_iff_getElem.1 hm
      refine ⟨j, hj, ?_⟩
      unfold numF
      rw [List.getD_eq_getElem?_getD, List.getElem?_eq_getElem hj, he]
      rfl
  have K := Lib.hid key
  clear key
  go_enter Try.func55, Try.ntmps55
  go_wp2_with (go_at_call 68; refine (index_any A l.length c (numF l) x w h hn).mono ?_; rintro e w1 ⟨⟨k, rfl, hk, hd⟩, hb1⟩; have HB := Lib.hid hb1; have HD := Lib.hid hd; clear hb1 hd)
  go_ret
  refine ⟨ret_bool ?_, HB.out⟩
  have := HD.out.trans K.out
  simp only [decide_eq_decide]
  exact this

/-! Whether a frame follows another. -/
theorem pred5_any (x y z f : Int) (p1 : Nat) (w : World) (h1 : w.cell? ⟨p1, 0, none⟩ = some (.int .i64 f)) :
    Calls Try.prog 67 #[.agg #[.int .i64 x, .int .i64 y, .int .i64 z], .pointer (some ⟨p1, 0, none⟩)] w
      fun e w' => e = .returned (.bool (z == f)) ∧ Below w.heap.size w w' := by
  have l1 := cell_lt h1
  cases hq : (z == f)
  all_goals
    go_enter Try.func67, Try.ntmps67
    go_wp2
    go_ret
    exact ⟨rfl, (Below.refl _ _).alloc (Nat.le_refl _) _⟩
set_option maxHeartbeats 1000000 in
theorem indexFunc5_any (A' : Option Addr) (n c' p1 : Nat) (F : Nat → Fr) (f : Int) (w : World) (hT : Tab w w.heap.size A' n c' F) (hn : n ≤ 4096)
    (h1 : w.cell? ⟨p1, 0, none⟩ = some (.int .i64 f)) :
    Calls Try.prog 73 #[.slice A' n c', .func (.func 67) #[] #[.pointer (some ⟨p1, 0, none⟩)]] w
      fun e w' => (∃ k : Int, e = .returned (.int .i64 k) ∧ -1 ≤ k ∧ decide (0 ≤ k) = fol F n f) ∧ Below w.heap.size w w' := by
  have HT := Lib.hid hT
  have H1 := Lib.hid h1
  have l1 := cell_lt h1
  clear hT h1
  go_enter Try.func73, Try.ntmps73
  go_wp2
  go_loopw [5, 8] (fun _ i wr => ∃ t : Nat, t ≤ n ∧ i = .int .i64 t ∧ fol F t f = false ∧ Below w.heap.size w wr) (fun _ i _ => n - (intOf i).toNat)
  case atStart => exact ⟨0, by omega, rfl, rfl, Below.refl _ _⟩
  case round =>
    obtain ⟨t, ht, rfl, hno, hb⟩ := hrel
    have HN := Lib.hid hno
    have HB := Lib.hid hb
    clear hno hb
    by_cases hlt : t < n
    · have hlt2 : 0 ≤ (t : Int) ∧ (t : Int) < n := by omega
      have HTR : Hid (Tab wr w.heap.size A' n c' F) := HT.out.below HB.out
      obtain ⟨b, o', rfl, hbb⟩ := HTR.out.base_ (by omega)
      obtain ⟨_, c0, c1, c2⟩ := HTR.out.cells t hlt
      have bz : b < wr.heap.size := by have := HB.out.size; omega
      have HP : Hid (wr.cell? ⟨p1, 0, none⟩ = some (.int .i64 f)) := Lib.hid ((HB.out.cell (p := ⟨p1, 0, none⟩) l1).trans H1.out)
      have HS := Lib.hid (show fol F (t + 1) f = ((F t).nx == f) by rw [fol_succ, HN.out]; rfl)
      obtain ⟨z, hz⟩ : ∃ z, z = (F t).nx := ⟨_, rfl⟩
      rw [← hz] at HS
      rw [← hz] at c2
      clear hz
      cases hq : (z == f) with
      | true =>
        have HQ2 := Lib.hid hq
        have hge : decide (0 ≤ (t : Int)) = true := decide_eq_true (by omega)
        clear hq
        go_wp2_with (go_at_call 67; refine (pred5_any _ _ z f p1 _ HP.out).mono ?_; rintro e w1 ⟨rfl, hb1⟩; rw [HQ2.out])
        go_ret
        refine ⟨⟨t, rfl, by omega, ?_⟩, below_next HB.out (Nat.le_refl _) hb1⟩
        obtain ⟨g, h2, h3⟩ := (fol_iff F (t + 1) f).1 (by rw [HS.out]; exact HQ2.out)
        rw [(fol_iff F n f).2 ⟨g, by omega, h3⟩]
        exact hge
      | false =>
        have HQ2 := Lib.hid hq
        clear hq
        go_wp2_with (go_at_call 67; refine (pred5_any _ _ z f p1 _ HP.out).mono ?_; rintro e w1 ⟨rfl, hb1⟩; rw [HQ2.out])
        exact ⟨⟨t + 1, by omega, by go_num, by rw [HS.out]; exact HQ2.out, below_next HB.out (Nat.le_refl _) hb1⟩, by simp [intOf]; omega⟩
    · obtain rfl : n = t := by omega
      have hlt2 : ¬ (n : Int) < n := by omega
      go_wp2
      go_ret
      exact ⟨⟨-1, rfl, by omega, by rw [HN.out]; rfl⟩, HB.out⟩
theorem containsFunc5_any (A' : Option Addr) (n c' p1 : Nat) (F : Nat → Fr) (f : Int) (w : World) (hT : Tab w w.heap.size A' n c' F) (hn : n ≤ 4096)
    (h1 : w.cell? ⟨p1, 0, none⟩ = some (.int .i64 f)) :
    Calls Try.prog 66 #[.slice A' n c', .func (.func 67) #[] #[.pointer (some ⟨p1, 0, none⟩)]] w
      fun e w' => e = .returned (.bool (fol F n f)) ∧ Below w.heap.size w w' := by
  go_enter Try.func66, Try.ntmps66
  go_wp2_with (go_at_call 73; refine (indexFunc5_any A' n c' p1 F f w hT hn h1).mono ?_; rintro e w1 ⟨⟨k, rfl, hk, hd⟩, hb1⟩)
  go_ret
  exact ⟨rfl, hb1⟩
theorem follows_any (s : Int) (V1 : Value) (A' : Option Addr) (n c' : Nat) (F : Nat → Fr) (f : Int) (w : World) (hT : Tab w w.heap.size A' n c' F) (hn : n ≤ 4096) :
    Calls Try.prog 54 #[.agg #[.int .i64 s, V1, .slice A' n c'], .int .i64 f] w
      fun e w' => e = .returned (.bool (fol F n f)) ∧ Below w.heap.size w w' := by
  obtain ⟨U, hU⟩ : ∃ U, U = (w.alloc (.cells #[.int .i64 s, V1, .slice A' n c'] 25)).alloc (.cells #[.int .i64 f] 3) := ⟨_, rfl⟩
  have BU : Blk U w.heap.size 25 #[.int .i64 s, V1, .slice A' n c'] := by rw [hU]; exact (Blk.new _ _ _).alloc _
  have B1 : Blk U (w.heap.size + 1) 3 #[.int .i64 f] := by rw [hU]; exact Blk.newAt _ _ _ _ (by simp)
  have HBU : Hid (Below w.heap.size w U) := by rw [hU]; exact ((Below.refl _ _).alloc (Nat.le_refl _) _).alloc (by simp) _
  have HT := Lib.hid (hT.next HBU.out)
  have HU := Lib.hid hU
  have p2 := BU.cell 2
  have q1 := B1.cell 0
  simp at p2 q1
  have Q1 := Lib.hid q1
  clear hT hU q1
  go_enter Try.func54, Try.ntmps54
  go_wp2_with (go_at_call 66; rw [← HU.out]; refine (containsFunc5_any A' n c' _ F f U HT.out hn Q1.out).mono ?_; rintro e w1 ⟨rfl, hb1⟩)
  go_ret
  exact ⟨rfl, below_next HBU.out (Nat.le_refl _) hb1⟩

set_option maxHeartbeats 1000000 in
theorem clone5_any (k : Int) (A A' : Option Addr) (nw c n c' : Nat) (wd : Nat → Int) (F : Nat → Fr) (w : World) (hA : Arr w w.heap.size A nw c wd) (hT : Tab w w.heap.size A' n c' F) (hn : n ≤ 4096) (hn0 : 0 < n) (hw : nw ≤ 1048576) (hw0 : 0 < nw) :
    Calls Try.prog 34 #[.agg #[.int .i64 k, .slice A nw c, .slice A' n c']] w (CopyOf k nw n wd F w) := by
  obtain ⟨b, o, rfl, hbb⟩ := hT.base_ hn0
  obtain ⟨b', o', rfl, hbb', _⟩ := hA.at_ 0 hw0
  have HA := Lib.hid hA
  have HT := Lib.hid hT
  obtain ⟨U, hU⟩ : ∃ U, U = (w.alloc (.cells #[.int .i64 k, .slice (some ⟨b', o', none⟩) nw c, .slice (some ⟨b, o, none⟩) n c'] 25)).alloc (.cells #[.int .i64 0, .slice none 0 0, .slice none 0 0] 25) := ⟨_, rfl⟩
  have BU : Blk U w.heap.size 25 #[.int .i64 k, .slice (some ⟨b', o', none⟩) nw c, .slice (some ⟨b, o, none⟩) n c'] := by rw [hU]; exact (Blk.new _ _ _).alloc _
  have BR : Blk U (w.heap.size + 1) 25 #[.int .i64 0, .slice none 0 0, .slice none 0 0] := by rw [hU]; exact Blk.newAt _ _ _ _ (by simp)
  have HBU : Hid (Below w.heap.size w U) := by rw [hU]; exact ((Below.refl _ _).alloc (Nat.le_refl _) _).alloc (by simp) _
  have HU := Lib.hid hU
  have p0 := BU.cell 0
  have p1 := BU.cell 1
  have p2 := BU.cell 2
  simp at p0 p1 p2
  have z1 : w.heap.size < U.heap.size := BU.lt
  have z2 : w.heap.size + 1 < U.heap.size := BR.lt
  have hau : Arr U U.heap.size (some ⟨b', o', none⟩) nw c wd := HA.out.next HBU.out
  have HAD : Hid (Arr U.drew U.drew.heap.size (some ⟨b', o', none⟩) nw c wd) := hau
  clear hau
  have htu : Tab U U.heap.size (some ⟨b, o, none⟩) n c' F := HT.out.next HBU.out
  have HTD : Hid (Tab U.drew U.drew.heap.size (some ⟨b, o, none⟩) n c' F) := htu
  clear htu
  have BRD : Blk U.drew (w.heap.size + 1) 25 #[.int .i64 0, .slice none 0 0, .slice none 0 0] := BR
  clear hA hT hU
  go_enter Try.func34, Try.ntmps34
  go_wp2
  rw [← HU.out]
  go_region_held3 (fun w' => w'.cell? ⟨w.heap.size, 0, none⟩ = some (.int .i64 k) ∧ w'.cell? ⟨w.heap.size, 1, none⟩ = some (.slice (some ⟨b', o', none⟩) nw c) ∧ w'.cell? ⟨w.heap.size, 2, none⟩ = some (.slice (some ⟨b, o, none⟩) n c'))
    (first | exact ⟨p0, p1, p2⟩ | exact ⟨a0, a1, a2⟩ | exact ⟨b0, b1, b2⟩ | go_keep)
    (first
      | (go_at_call 56; refine (clonew_any b' o' nw c wd _ HAD.out hw hw0).mono ?_; rintro e wa ⟨A1, c1, rfl, ho, hba⟩; have a0 := (hba.cell (p := ⟨w.heap.size, 0, none⟩) z1).trans p0; have a1 := (hba.cell (p := ⟨w.heap.size, 1, none⟩) z1).trans p1; have a2 := (hba.cell (p := ⟨w.heap.size, 2, none⟩) z1).trans p2; have za : w.heap.size < wa.heap.size := Nat.lt_of_lt_of_le z1 hba.size; have Ba := BRD.next hba; have zRa := Ba.lt; have ra0 := Ba.cell 0; have ra1 := Ba.cell 1; have ra2 := Ba.cell 2; simp at ra0 ra1 ra2; have fa0 := Ba.frozen 0; have fa1 := Ba.frozen 1; have fa2 := Ba.frozen 2)
      | (go_at_call 56; refine (clonew_any b' o' nw c wd _ (HAD.out.next hbb2) hw hw0).mono ?_; rintro e wa ⟨A1, c1, rfl, ho, hba⟩; have a0 := (hba.cell (p := ⟨w.heap.size, 0, none⟩) zb).trans b0; have a1 := (hba.cell (p := ⟨w.heap.size, 1, none⟩) zb).trans b1; have a2 := (hba.cell (p := ⟨w.heap.size, 2, none⟩) zb).trans b2; have za : w.heap.size < wa.heap.size := Nat.lt_of_lt_of_le zb hba.size; have Ba := Bb.next hba; have zRa := Ba.lt; have ra0 := Ba.cell 0; have ra1 := Ba.cell 1; have ra2 := Ba.cell 2; simp at ra0 ra1 ra2; have fa0 := Ba.frozen 0; have fa1 := Ba.frozen 1; have fa2 := Ba.frozen 2)
      | (go_at_call 57; refine (clonef_any b o n c' F _ HTD.out hn hn0).mono ?_; rintro e wb ⟨gt, ct, rfl, htab, hbb2⟩; have b0 := (hbb2.cell (p := ⟨w.heap.size, 0, none⟩) z1).trans p0; have b1 := (hbb2.cell (p := ⟨w.heap.size, 1, none⟩) z1).trans p1; have b2 := (hbb2.cell (p := ⟨w.heap.size, 2, none⟩) z1).trans p2; have zb : w.heap.size < wb.heap.size := Nat.lt_of_lt_of_le z1 hbb2.size; have Bb := BRD.next hbb2; have zRb := Bb.lt; have rb0 := Bb.cell 0; have rb1 := Bb.cell 1; have rb2 := Bb.cell 2; simp at rb0 rb1 rb2; have fb0 := Bb.frozen 0; have fb1 := Bb.frozen 1; have fb2 := Bb.frozen 2)
      | (go_at_call 57; refine (clonef_any b o n c' F _ (HTD.out.next hba) hn hn0).mono ?_; rintro e wb ⟨gt, ct, rfl, htab, hbb2⟩; have b0 := (hbb2.cell (p := ⟨w.heap.size, 0, none⟩) za).trans a0; have b1 := (hbb2.cell (p := ⟨w.heap.size, 1, none⟩) za).trans a1; have b2 := (hbb2.cell (p := ⟨w.heap.size, 2, none⟩) za).trans a2; have zb : w.heap.size < wb.heap.size := Nat.lt_of_lt_of_le za hbb2.size; have Bb := Ba.next hbb2; have zRb := Bb.lt; have rb0 := Bb.cell 0; have rb1 := Bb.cell 1; have rb2 := Bb.cell 2; simp at rb0 rb1 rb2; have fb0 := Bb.frozen 0; have fb1 := Bb.frozen 1; have fb2 := Bb.frozen 2))
  have hud : Below w.heap.size w U.drew := HBU.out.drew
  have HBB := Lib.hid (below_next (below_next hud (Nat.le_refl _) hba) (Nat.le_refl _) hbb2)
  have hur : U.drew.heap.size ≤ wa.heap.size := hba.size
  have z3 : w.heap.size + 1 < wa.heap.size := Nat.lt_of_lt_of_le z2 hur
  have HO2 := Lib.hid (ho.below hbb2)
  have HTA := Lib.hid htab
  clear ho htab hba hbb2 hud
  go_wp2
  refine bodyPost_ret (v := .agg #[.int .i64 k, .slice A1 nw c1, .slice (some ⟨gt, 0, none⟩) n ct]) (by simp [results, Try.results34, go_sem, rb0, rb1, rb2]) rfl ⟨_, _, _, _, rfl, ?_, ?_, ?_⟩
  · exact (HO2.out.put3 z2 _ _ _).lower (show w.heap.size ≤ U.drew.heap.size from Nat.le_of_lt z1)
  · exact (HTA.out.put3 z3 _ _ _).lower (Nat.le_of_lt za)
  · exact below_put3 HBB.out (by omega) _ _ _
end Go.Proofs.Ytpbcpobbjoopnaa
