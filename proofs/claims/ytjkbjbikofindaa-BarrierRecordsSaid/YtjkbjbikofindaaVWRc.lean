/-
  Layer 19: the walk of BarrierRecords.
-/
import Derived.Test.YtjkbjbikofindaaVAwk
import Derived.Test.YtjkbjbikofindaaMWords
import Derived.Test.YtjkbjbikofindaaRSame
import Derived.Test.YtjkbjbikofindaaRSpo
namespace Go.Proofs.Ytjkbjbikofindaa
open Go.RowKit
set_option maxRecDepth 100000
set_option linter.unusedVariables false

theorem wf_u64V {a : Int} (h : (Lit.int .u64 a).wf = true) : 0 ≤ a ∧ a < 18446744073709551616 := by
  have hmin : IntKind.u64.min = 0 := rfl
  have hmax : IntKind.u64.max = 18446744073709551615 := rfl
  simp only [Lit.wf, Bool.and_eq_true, decide_eq_true_eq, hmin, hmax] at h
  omega
theorem drew_cellV {w : World} {p : Addr} {v : Value} (h : w.cell? p = some v) : w.drew.cell? p = some v := h
/-- The l-th of a slice of pairs of numbers in block Q. -/
def DuoV (W : World) (Q l : Nat) : Prop := ∃ (b : Nat) (p0 p1 : Int), b < W.heap.size ∧ W.cell? ⟨Q, l, none⟩ = some (.slice (some ⟨b, 0, none⟩) 2 2) ∧ W.cell? ⟨b, 0, none⟩ = some (.int .i64 p0) ∧ W.cell? ⟨b, 1, none⟩ = some (.int .i64 p1) ∧ -9223372036854775808 ≤ p0 ∧ p0 ≤ 9223372036854775807 ∧ 0 ≤ p1 ∧ p1 ≤ 9223372036854775807
def DuosV (W : World) (Q : Nat) : Prop := ∀ l, l < 2 → DuoV W Q l
/-- The j-th space of a slice of spaces in block Q. -/
def ZAtV (W : World) (Q j : Nat) : Prop := ∃ (s : Int) (A : Option Addr) (nw c : Nat) (A' : Option Addr) (n c' : Nat), W.cell? ⟨Q, j * 3, none⟩ = some (.int .i64 s) ∧ W.cell? ⟨Q, j * 3 + 1, none⟩ = some (.slice A nw c) ∧ W.cell? ⟨Q, j * 3 + 2, none⟩ = some (.slice A' n c') ∧ YV W s A nw c A' n c'

theorem duo1 {P0 : World} {S : Nat} {a k x y : Int} (hs : P0.heap.size = S) (ha : -9223372036854775808 ≤ a ∧ a ≤ 9223372036854775807) (hk : 0 ≤ k ∧ k ≤ 9223372036854775807) (hx : -9223372036854775808 ≤ x ∧ x ≤ 9223372036854775807) (hy : 0 ≤ y ∧ y ≤ 9223372036854775807) :
    DuosV (((P0.alloc (.cells #[.int .i64 a, .int .i64 k] 3)).alloc (.cells #[.int .i64 x, .int .i64 y] 3)).alloc (.cells #[.slice (some ⟨S, 0, none⟩) 2 2, .slice (some ⟨S + 1, 0, none⟩) 2 2] 27)).drew (S + 1 + 1) ∧
      S + 1 + 1 < (((P0.alloc (.cells #[.int .i64 a, .int .i64 k] 3)).alloc (.cells #[.int .i64 x, .int .i64 y] 3)).alloc (.cells #[.slice (some ⟨S, 0, none⟩) 2 2, .slice (some ⟨S + 1, 0, none⟩) 2 2] 27)).drew.heap.size ∧
      Below P0.heap.size P0 (((P0.alloc (.cells #[.int .i64 a, .int .i64 k] 3)).alloc (.cells #[.int .i64 x, .int .i64 y] 3)).alloc (.cells #[.slice (some ⟨S, 0, none⟩) 2 2, .slice (some ⟨S + 1, 0, none⟩) 2 2] 27)).drew := by
  subst hs
  obtain ⟨P, hP⟩ : ∃ P, P = (((P0.alloc (.cells #[.int .i64 a, .int .i64 k] 3)).alloc (.cells #[.int .i64 x, .int .i64 y] 3)).alloc (.cells #[.slice (some ⟨P0.heap.size, 0, none⟩) 2 2, .slice (some ⟨P0.heap.size + 1, 0, none⟩) 2 2] 27)).drew := ⟨_, rfl⟩
  have b1 : Blk P P0.heap.size 3 #[.int .i64 a, .int .i64 k] := by rw [hP]; exact ((Blk.new P0 _ _).alloc _).alloc _
  have b2 : Blk P (P0.heap.size + 1) 3 #[.int .i64 x, .int .i64 y] := by rw [hP]; exact (Blk.newAt _ _ _ _ (by simp)).alloc _
  have b3 : Blk P (P0.heap.size + 1 + 1) 27 #[.slice (some ⟨P0.heap.size, 0, none⟩) 2 2, .slice (some ⟨P0.heap.size + 1, 0, none⟩) 2 2] := by rw [hP]; exact Blk.newAt _ _ _ _ (by simp)
  rw [← hP]
  refine ⟨fun l hl => ?_, b3.lt, by rw [hP]; exact ((((Below.refl _ _).alloc (Nat.le_refl _) _).alloc (by simp) _).alloc (by simp; omega) _).drew⟩
  rcases (by omega : l = 0 ∨ l = 1) with e | e <;> subst e
  · exact ⟨_, a, k, b1.lt, b3.cell 0, b1.cell 0, b1.cell 1, ha.1, ha.2, hk.1, hk.2⟩
  · exact ⟨_, x, y, b2.lt, b3.cell 1, b2.cell 0, b2.cell 1, hx.1, hx.2, hy.1, hy.2⟩
theorem duo2 {P0 : World} {S : Nat} {a k x y : Int} (hs : P0.heap.size = S) (ha : -9223372036854775808 ≤ a ∧ a ≤ 9223372036854775807) (hk : 0 ≤ k ∧ k ≤ 9223372036854775807) (hx : -9223372036854775808 ≤ x ∧ x ≤ 9223372036854775807) (hy : 0 ≤ y ∧ y ≤ 9223372036854775807) :
    DuosV (((P0.alloc (.cells #[.int .i64 x, .int .i64 y] 3)).alloc (.cells #[.int .i64 a, .int .i64 k] 3)).alloc (.cells #[.slice (some ⟨S + 1, 0, none⟩) 2 2, .slice (some ⟨S, 0, none⟩) 2 2] 27)).drew (S + 1 + 1) ∧
      S + 1 + 1 < (((P0.alloc (.cells #[.int .i64 x, .int .i64 y] 3)).alloc (.cells #[.int .i64 a, .int .i64 k] 3)).alloc (.cells #[.slice (some ⟨S + 1, 0, none⟩) 2 2, .slice (some ⟨S, 0, none⟩) 2 2] 27)).drew.heap.size ∧
      Below P0.heap.size P0 (((P0.alloc (.cells #[.int .i64 x, .int .i64 y] 3)).alloc (.cells #[.int .i64 a, .int .i64 k] 3)).alloc (.cells #[.slice (some ⟨S + 1, 0, none⟩) 2 2, .slice (some ⟨S, 0, none⟩) 2 2] 27)).drew := by
  subst hs
  obtain ⟨P, hP⟩ : ∃ P, P = (((P0.alloc (.cells #[.int .i64 x, .int .i64 y] 3)).alloc (.cells #[.int .i64 a, .int .i64 k] 3)).alloc (.cells #[.slice (some ⟨P0.heap.size + 1, 0, none⟩) 2 2, .slice (some ⟨P0.heap.size, 0, none⟩) 2 2] 27)).drew := ⟨_, rfl⟩
  have b2 : Blk P P0.heap.size 3 #[.int .i64 x, .int .i64 y] := by rw [hP]; exact ((Blk.new P0 _ _).alloc _).alloc _
  have b1 : Blk P (P0.heap.size + 1) 3 #[.int .i64 a, .int .i64 k] := by rw [hP]; exact (Blk.newAt _ _ _ _ (by simp)).alloc _
  have b3 : Blk P (P0.heap.size + 1 + 1) 27 #[.slice (some ⟨P0.heap.size + 1, 0, none⟩) 2 2, .slice (some ⟨P0.heap.size, 0, none⟩) 2 2] := by rw [hP]; exact Blk.newAt _ _ _ _ (by simp)
  rw [← hP]
  refine ⟨fun l hl => ?_, b3.lt, by rw [hP]; exact ((((Below.refl _ _).alloc (Nat.le_refl _) _).alloc (by simp) _).alloc (by simp; omega) _).drew⟩
  rcases (by omega : l = 0 ∨ l = 1) with e | e <;> subst e
  · exact ⟨_, a, k, b1.lt, b3.cell 0, b1.cell 0, b1.cell 1, ha.1, ha.2, hk.1, hk.2⟩
  · exact ⟨_, x, y, b2.lt, b3.cell 1, b2.cell 0, b2.cell 1, hx.1, hx.2, hy.1, hy.2⟩

/-- What Record answers, for the developers and the reference alike. -/
theorem recOf_get (k : Int) (nw n : Nat) (wd : Nat → Int) (F : Nat → Fr) (L : List SetR) (slot x : Int) : ∃ (M : List SetR) (r : Int), ∀ (w : World) (e : Ending) (w' : World), RecOf k nw n wd F L slot x w e w' → ∃ A c, e = .returned (.tuple #[.slice A M.length c, .int .i64 r]) ∧ TArr w' (Lt w'.heap.size) A c M ∧ Below w.heap.size w w' := by
  by_cases h : ValidP k nw wd n F ∧ ValS L
  · refine ⟨noteS k.toNat nw F slot x L, 0, fun w e w' hi => ?_⟩
    obtain ⟨v, r, rfl, hb, ⟨_, _, rfl, A, c, rfl, ht⟩ | ⟨hno, _⟩⟩ := hi
    · exact ⟨A, c, rfl, ht, hb⟩
    · exact absurd h hno
  · refine ⟨[], 1, fun w e w' hi => ?_⟩
    obtain ⟨v, r, rfl, hb, ⟨h1, h2, _⟩ | ⟨_, rfl, rfl⟩⟩ := hi
    · exact absurd ⟨h1, h2⟩ h
    · exact ⟨none, 0, rfl, TArr.nil _ _, hb⟩
theorem few_of {L : List SetR} (h1 : L.length ≤ 40) (h2 : cntT L ≤ 300) : Few18 1048000 L :=
  ⟨by omega, fun x hx => by have := Nat.le_trans (sl_le hx) h2; omega⟩

set_option maxHeartbeats 16000000 in
theorem walkRecords (k0 : Int) (A0 A0' : Option Addr) (nw0 c0 n0 c0' : Nat) (wd0 : Nat → Int) (F0 : Nat → Fr) (Ar : Option Addr) (cr : Nat) (Lr : List SetR) (Al : Option Addr) (nl cl : Nat) (slot xw what at_ by_ : Int) (w : World)
    (hA : Arr w w.heap.size A0 nw0 c0 wd0) (hT : Tab w w.heap.size A0' n0 c0' F0) (hR : TArr w (Lt w.heap.size) Ar cr Lr) (hRs : ∀ x ∈ Lr, x.sl.length ≤ 140737488355328) (hL : ListP w w.heap.size Al nl cl)
    (s0 : -9223372036854775808 ≤ slot) (s1 : slot ≤ 9223372036854775807) (x0 : 0 ≤ xw) (x1 : xw < 18446744073709551616) (w0 : -9223372036854775808 ≤ what) (w1 : what ≤ 9223372036854775807) (a0 : -9223372036854775808 ≤ at_) (a1 : at_ ≤ 9223372036854775807) (b0 : -9223372036854775808 ≤ by_) (b1 : by_ ≤ 9223372036854775807) :
    Calls Try.prog 3 #[.agg #[.int .i64 k0, .slice A0 nw0 c0, .slice A0' n0 c0'], .slice Ar Lr.length cr, .slice Al nl cl, .int .i64 slot, .int .u64 xw, .int .i64 what, .int .i64 at_, .int .i64 by_] w fun e w' => e = .returned (.bool true) ∧ Below w.heap.size w w' := by
  obtain ⟨U, hU⟩ : ∃ U, U = w.alloc (.cells #[.int .i64 k0, .slice A0 nw0 c0, .slice A0' n0 c0'] 25) := ⟨_, rfl⟩
  have BX := Lib.hid (show Blk U w.heap.size 25 #[.int .i64 k0, .slice A0 nw0 c0, .slice A0' n0 c0'] by rw [hU]; exact Blk.new _ _ _)
  have hbu : Below w.heap.size w U := by rw [hU]; exact (Below.refl _ _).alloc (Nat.le_refl _) _
  have HBU := Lib.hid hbu
  have HU := Lib.hid hU
  have HL := Lib.hid (hL.next hbu)
  have HR := Lib.hid hR
  have HRS := Lib.hid hRs
  have HA0 := Lib.hid hA
  have HT0 := Lib.hid hT
  have HSB := Lib.hid (And.intro s0 s1)
  have HXB := Lib.hid (And.intro x0 x1)
  have HSPO : Hid (∀ (k : Int) (A A' : Option Addr) (nw c n c' : Nat) (wd : Nat → Int) (F : Nat → Fr) (W : World), Arr W W.heap.size A nw c wd → Tab W W.heap.size A' n c' F → n ≤ 4096 → 0 < n → nw ≤ 1000000 → 0 < nw → Calls Try.prog 14 #[.agg #[.int .i64 k, .slice A nw c, .slice A' n c'], .int .i64 what, .int .i64 at_, .int .i64 by_] W fun e w' => ∃ (k : Int) (nw' c g c' : Nat) (A : Option Addr) (wd : Nat → Int) (F : Nat → Fr), e = .returned (.agg #[.int .i64 k, .slice A nw' c, .slice (some ⟨g, 0, none⟩) n c']) ∧ nw ≤ nw' ∧ nw' ≤ nw + 1 ∧ Own w' W.heap.size A nw' c wd ∧ OwnT w' W.heap.size (some ⟨g, 0, none⟩) n c' F ∧ Below W.heap.size W w') :=
    Lib.hid fun k A A' nw c n c' wd F W h1 h2 h3 h4 h5 h6 => spoilt_any k A A' nw c n c' wd F what at_ by_ W h1 h2 h3 h4 h5 h6 w0 w1 a0 a1 b0 b1
  clear hL hU hbu hA hT hR hRs s0 s1 x0 x1 w0 w1 a0 a1 b0 b1
  go_enter Try.func3, Try.ntmps3
  go_wp2_with fail
  rw [← HU.out]
  refine (small_any k0 A0 A0' nw0 c0 n0 c0' U).mono ?_
  rintro e U1 ⟨rfl, hb⟩
  have BX1 := Lib.hid (BX.out.next hb)
  have HBU1 := Lib.hid (below_next HBU.out (Nat.le_refl _) hb)
  have HL1 := Lib.hid (HL.out.next hb)
  clear hb BX HBU HL HU
  obtain ⟨sm, hsm, hn⟩ : ∃ b, (decide (nw0 ≤ 3000) && decide (n0 ≤ 80)) = b ∧ (b = true → nw0 ≤ 3000 ∧ n0 ≤ 80) := ⟨_, rfl, by simp⟩
  rw [hsm]
  clear hsm
  rcases sm with _ | _
  · go_wp2_with fail
    refine (awake19_any _).mono ?_
    rintro e w6 ⟨rfl, b6⟩
    have HB6 := Lib.hid b6
    clear b6
    go_wp2_with fail
    go_ret
    exact ⟨rfl, below_next HBU1.out (Nat.le_refl _) HB6.out⟩
  clear hn
  go_wp2_with fail
  refine (mkSets_any Ar cr Lr U1 (HR.out.next HBU1.out) HRS.out).mono ?_
  rintro e U4 ⟨q, rfl, hq, hb⟩
  have HQ := Lib.hid hq
  have BX4 := Lib.hid (BX1.out.next hb)
  have HBU4 := Lib.hid (below_next HBU1.out (Nat.le_refl _) hb)
  have HL4 := Lib.hid (HL1.out.next hb)
  clear hq hb BX1 HBU1 HL1
  cases q with
  | false =>
    go_wp2_with fail
    refine (awake19_any _).mono ?_
    rintro e w6 ⟨rfl, b6⟩
    have HB6 := Lib.hid b6
    clear b6
    go_wp2_with fail
    go_ret
    exact ⟨rfl, below_next HBU4.out (Nat.le_refl _) HB6.out⟩
  | true =>
    have HBR := Lib.hid (HQ.out.1 (by first | rfl | trivial))
    clear HQ
    go_wp2_with fail
    refine (deck_any Al nl cl U4 HL4.out).mono ?_
    rintro e U2 ⟨rfl, hd, hb, hz⟩
    have HDK := Lib.hid hd
    have BX2 := Lib.hid (BX4.out.next hb)
    have HBU2 := Lib.hid (below_next HBU4.out (Nat.le_refl _) hb)
    have zz := BX4.out.lt
    clear hd hb BX4 HBU4 HL4
    go_wp2_with fail
    refine (space_any U4.heap.size U2 HDK.out).mono ?_
    rintro e U3 ⟨k, m, B, d, gb, d', wd, F, L, rfl, kk0, kk1, m0, m1, hoA, hoT, ⟨hvp, _⟩, ⟨hdk3, _⟩, hG⟩
    have BX3 := Lib.hid (BX2.out.turn hG (by omega))
    have HBU3 := Lib.hid (below_turn HBU2.out hG (by omega))
    have HA3 := Lib.hid hoA
    have HT3 := Lib.hid hoT
    have HD3 := Lib.hid hdk3
    have HVP := Lib.hid hvp
    have hdl2 : U4.heap.size < U2.heap.size := HDK.out.lt
    have hz3 := hG.size
    have hmk0 : 0 < m * 2 ^ k := Nat.mul_pos (by omega) (Nat.two_pow_pos k)
    have hmk1 : m * 2 ^ k ≤ 16384 := prod_le (by omega) (by omega)
    have HMK := Lib.hid (show m * 2 ^ k = m * 2 ^ k from rfl)
    obtain ⟨mk, hmk⟩ : ∃ mk, mk = m * 2 ^ k := ⟨_, rfl⟩
    rw [← hmk] at HA3 hmk0 hmk1 HVP ⊢
    replace HMK : Hid (mk = m * 2 ^ k) := Lib.hid hmk
    clear hG BX2 HBU2 HDK hz hoA hoT hmk hvp hdk3
    go_wp2_with fail
    obtain ⟨V, hV⟩ : ∃ V, V = U3.alloc (.cells #[.int .i64 k, .slice B mk d, .slice (some ⟨gb, 0, none⟩) m d'] 25) := ⟨_, rfl⟩
    have hbv : Below U3.heap.size U3 V := by rw [hV]; exact (Below.refl _ _).alloc (Nat.le_refl _) _
    have BY := Lib.hid (show Blk V U3.heap.size 25 #[.int .i64 k, .slice B mk d, .slice (some ⟨gb, 0, none⟩) m d'] by rw [hV]; exact Blk.new _ _ _)
    have BX4 := Lib.hid (BX3.out.next hbv)
    have HBV := Lib.hid (below_next HBU3.out (Nat.le_refl _) hbv)
    have HDV := Lib.hid (HD3.out.next hbv)
    have HAV := Lib.hid (HA3.out.below hbv)
    have HTV := Lib.hid (HT3.out.below hbv)
    have HV := Lib.hid hV
    have hz4 : U3.heap.size < V.heap.size := BY.out.lt
    clear hV hbv BX3 HBU3 HA3 HT3 HD3
    rw [← HV.out]
    go_wp2_with fail
    refine (slots_any U4.heap.size V HDV.out).mono ?_
    rintro e V5 ⟨v, Ls, rfl, hvs, hls, hcs, hto, hd5, hg5⟩
    obtain ⟨A7, c7, rfl, hT7⟩ := hto.tarr
    have HLS := Lib.hid (few_of (L := Ls) (by omega) (by omega))
    have HT7 := Lib.hid hT7
    have BX5 := Lib.hid (BX4.out.turn hg5 (by omega))
    have BY5 := Lib.hid (BY.out.turn hg5 (by omega))
    have HB5 := Lib.hid (below_turn HBV.out hg5 (by omega))
    have HA5 := Lib.hid (HAV.out.turnB hg5 hdl2).arr
    have HT5 := Lib.hid (HTV.out.turnB hg5 hdl2).tab
    have HR5 := Lib.hid (HR.out.next HB5.out)
    have HY5 := Lib.hid (show YV V5 k0 A0 nw0 c0 A0' n0 c0' from ⟨wd0, F0, (HA0.out.below HB5.out).more HB5.out.size, (HT0.out.below HB5.out).more HB5.out.size⟩)
    have HFR := Lib.hid (few_of HBR.out.1 HBR.out.2)
    clear hvs hls hcs hto hd5 hg5 hT7 HDV HAV HTV BX4 BY HBV HA0 HT0 HR HRS hz3 hz4 hdl2 HBR
    have p0 := BX5.out.cell 0
    have p1 := BX5.out.cell 1
    have p2 := BX5.out.cell 2
    have pz := BX5.out.lt
    have q0 := BY5.out.cell 0
    have q1 := BY5.out.cell 1
    have q2 := BY5.out.cell 2
    have qz := BY5.out.lt
    simp at p0 p1 p2 q0 q1 q2
    obtain ⟨z0, hz0, z00, z01⟩ : ∃ z, slot % ((mk : Int) + 2) = z ∧ 0 ≤ z ∧ z < 9223372036854775807 := ⟨_, rfl, Int.emod_nonneg _ (by omega), by have := Int.emod_lt_of_pos slot (show 0 < (mk : Int) + 2 by omega); omega⟩
    obtain ⟨xh, hxh, xh0, xh1⟩ : ∃ z, xw / 2 = z ∧ 0 ≤ z ∧ z ≤ 9223372036854775807 := ⟨_, rfl, by have := HXB.out.1; omega, by have := HXB.out.2; omega⟩
    obtain ⟨z1, hz1, z10, z11⟩ : ∃ z, xh % ((mk : Int) + 2) = z ∧ 0 ≤ z ∧ z < 9223372036854775807 := ⟨_, rfl, Int.emod_nonneg _ (by omega), by have := Int.emod_lt_of_pos xh (show 0 < (mk : Int) + 2 by omega); omega⟩
    have HZ0 := Lib.hid hz0
    have HZ1 := Lib.hid hz1
    have bS0 : (1 : Int) ≤ (mk : Int) + 2 := by omega
    have nm1 : (mk : Int) + 2 ≤ 9223372036854775807 := by omega
    have s1 : IntKind.i64.wrap ((mk : Int) + 2) = (mk : Int) + 2 := IntWalk.i64_in _ (by omega)
    have s3 : IntKind.i64.wrap (z0 - 1) = z0 - 1 := IntWalk.i64_in _ (by omega)
    have s4 : IntKind.i64.wrap xh = xh := IntWalk.i64_in _ (by omega)
    have HBZ0 := Lib.hid (show -9223372036854775808 ≤ z0 - 1 ∧ z0 - 1 ≤ 9223372036854775807 by omega)
    have HBZ1 := Lib.hid (show 0 ≤ z1 ∧ z1 ≤ 9223372036854775807 by omega)
    have HBXH := Lib.hid (show 0 ≤ xh ∧ xh ≤ 9223372036854775807 by omega)
    clear hz0 hz1
    go_upto_region 6 with fail
    go_cut [71, 72, 73] (fun v len i wx => len = .int .i64 2 ∧ i = .int .i64 0 ∧ ∃ Q, v = .slice (some ⟨Q, 0, none⟩) 2 2 ∧ DuosV wx Q ∧ Q < wx.heap.size ∧ Below V5.heap.size V5 wx)
    case first =>
      go_region_held3 (fun w' => w'.cell? ⟨U3.heap.size, 1, none⟩ = some (.slice B mk d))
        (first | (with_reducible exact drew_cellV q1) | (with_reducible exact drew_cellV (Lib.cell?_alloc_some _ q1)) | (with_reducible exact drew_cellV (Lib.cell?_alloc_some _ (Lib.cell?_alloc_some _ q1))) | (with_reducible exact drew_cellV (Lib.cell?_alloc_some _ (Lib.cell?_alloc_some _ (Lib.cell?_alloc_some _ q1)))) | go_keep)
        (first
          | (go_at_call 11; (with_reducible show Calls _ _ #[.int .i64 slot, _] _ _); refine (mod_any slot ((mk : Int) + 2) bS0 nm1 HSB.out.1 HSB.out.2 _).mono ?_; rintro e w' ⟨rfl, rfl⟩; rw [HZ0.out])
          | (go_at_call 11; (with_reducible show Calls _ _ #[.int .i64 xh, _] _ _); refine (mod_any xh ((mk : Int) + 2) bS0 nm1 (by omega) xh1 _).mono ?_; rintro e w' ⟨rfl, rfl⟩; rw [HZ1.out])
          | fail "CALL")
      all_goals
        go_wp2
        go_meet
        first
        | exact ⟨rfl, rfl, _, rfl, duo1 rfl HSB.out HBXH.out HBZ0.out HBZ1.out⟩
        | exact ⟨rfl, rfl, _, rfl, duo2 rfl HSB.out HBXH.out HBZ0.out HBZ1.out⟩
    case rest =>
      obtain ⟨C, rfl⟩ : ∃ C, C = wc := ⟨_, rfl⟩
      obtain ⟨rfl, rfl, Q6, rfl, hDuo, hQ6, hbC⟩ := hcut
      have HDUO := Lib.hid hDuo
      have HBC := Lib.hid hbC
      have BXC := Lib.hid (BX5.out.next hbC)
      have BYC := Lib.hid (BY5.out.next hbC)
      have HAC := Lib.hid (HA5.out.next hbC)
      have HTC := Lib.hid (HT5.out.next hbC)
      have HRC := Lib.hid (HR5.out.next hbC)
      have H7C := Lib.hid (HT7.out.next hbC)
      have HYC := Lib.hid (HY5.out.next hbC)
      have HWC := Lib.hid (below_next HB5.out (Nat.le_refl _) hbC)
      have hQ6 := hQ6
      clear hDuo hbC BX5 BY5 HA5 HT5 HR5 HT7 HY5 HB5 p0 p1 p2 pz q0 q1 q2 qz HZ0 HZ1 bS0 nm1 s1 s3 s4 z00 z01 xh0 xh1 z10 z11 hxh HBZ0 HBZ1 HBXH
      go_wp2_with fail
      go_loopw [73] (fun i wr => ∃ t : Nat, t ≤ 2 ∧ i = .int .i64 t ∧ Below C.heap.size C wr) (fun i _ => 2 - (intOf i).toNat)
      case atStart => exact ⟨0, by omega, rfl, Below.refl _ _⟩
      case round =>
        obtain ⟨R, rfl⟩ : ∃ R, R = wr := ⟨_, rfl⟩
        obtain ⟨t, ht, rfl, hb⟩ := hrel
        have HBR := Lib.hid hb
        by_cases hlt : t < 2
        · have hlt2 : 0 ≤ (t : Int) ∧ (t : Int) < 2 := by omega
          obtain ⟨b, y0, y1, hbl, u0, u1, u2, g0, g1, g2, g3⟩ := HDUO.out t hlt
          have u0 := (hb.cell (p := ⟨Q6, t, none⟩) hQ6).trans u0
          have u1 := (hb.cell (p := ⟨b, 0, none⟩) hbl).trans u1
          have u2 := (hb.cell (p := ⟨b, 1, none⟩) hbl).trans u2
          have hbl2 := Nat.lt_of_lt_of_le hbl hb.size
          have BXR := Lib.hid (BXC.out.next hb)
          have BYR := Lib.hid (BYC.out.next hb)
          have HAR := Lib.hid (HAC.out.next hb)
          have HTR := Lib.hid (HTC.out.next hb)
          have q0 := BYR.out.cell 0
          have q1 := BYR.out.cell 1
          have q2 := BYR.out.cell 2
          have qz := BYR.out.lt
          simp at q0 q1 q2
          have hz1 : IntKind.u64.wrap y1 = y1 := IntWalk.u64_in _ (by omega)
          obtain ⟨n1, hn1⟩ : ∃ q, q = prB k mk F y0 y1 := ⟨_, rfl⟩
          obtain ⟨n2, hn2⟩ : ∃ q, q = prB k mk F y0 xw := ⟨_, rfl⟩
          have HN1 := Lib.hid hn1
          have HN2 := Lib.hid hn2
          have e1 : (n1 != n1) = false := by simp
          have e2 : (n2 != n2) = false := by simp
          have HG := Lib.hid (And.intro g0 (And.intro g1 (And.intro g2 g3)))
          have HKM := Lib.hid (And.intro kk0 (And.intro kk1 (And.intro m0 m1)))
          clear hn1 hn2 hb hbl
          go_upto_region 10 with fail
          have l1 : U3.heap.size < R.drew.heap.size := qz
          have l2 : b < R.drew.heap.size := hbl2
          have hc : Below R.drew.heap.size R.drew R.drew := Below.refl _ _
          go_region_held3 (fun w' => w'.cell? ⟨U3.heap.size, 0, none⟩ = some (.int .i64 k) ∧ w'.cell? ⟨U3.heap.size, 1, none⟩ = some (.slice B mk d) ∧ w'.cell? ⟨U3.heap.size, 2, none⟩ = some (.slice (some ⟨gb, 0, none⟩) m d') ∧ w'.cell? ⟨b, 0, none⟩ = some (.int .i64 y0))
            (first | (with_reducible exact ⟨drew_cellV q0, drew_cellV q1, drew_cellV q2, drew_cellV u1⟩) | (with_reducible exact ⟨(hc.cell (p := ⟨U3.heap.size, 0, none⟩) l1).trans (drew_cellV q0), (hc.cell (p := ⟨U3.heap.size, 1, none⟩) l1).trans (drew_cellV q1), (hc.cell (p := ⟨U3.heap.size, 2, none⟩) l1).trans (drew_cellV q2), (hc.cell (p := ⟨b, 0, none⟩) l2).trans (drew_cellV u1)⟩))
            (first
              | (go_at_call 12; (with_reducible show Calls _ _ #[_, _, .int .u64 y1] _ _); refine (devNeeds_any k mk d m d' B (some ⟨gb, 0, none⟩) wd F y0 y1 _ ((HAR.out.next (Below.refl _ R).drew).next hc) ((HTR.out.next (Below.refl _ R).drew).next hc) HVP.out (by have := HG.out; omega) (by have := HG.out; omega) HG.out.1 HG.out.2.1).mono ?_; rintro e w' ⟨rfl, hb⟩; rw [← HN1.out]; have hc := below_next hc (Nat.le_refl _) hb; clear hb)
              | (go_at_call 13; (with_reducible show Calls _ _ #[_, _, .int .u64 y1] _ _); refine (needsR_any k mk d m d' B (some ⟨gb, 0, none⟩) F y0 y1 _ ((HTR.out.next (Below.refl _ R).drew).next hc) (by have := HKM.out; omega) (by have := HKM.out; omega) HMK.out (by have := HG.out; omega) (by have := HG.out; omega)).mono ?_; rintro e w' ⟨rfl, hb⟩; rw [← HN1.out]; have hc := below_next hc (Nat.le_refl _) hb; clear hb)
              | (go_at_call 12; refine (devNeeds_any k mk d m d' B (some ⟨gb, 0, none⟩) wd F y0 xw _ ((HAR.out.next (Below.refl _ R).drew).next hc) ((HTR.out.next (Below.refl _ R).drew).next hc) HVP.out HXB.out.1 HXB.out.2 HG.out.1 HG.out.2.1).mono ?_; rintro e w' ⟨rfl, hb⟩; rw [← HN2.out]; have hc := below_next hc (Nat.le_refl _) hb; clear hb)
              | (go_at_call 13; refine (needsR_any k mk d m d' B (some ⟨gb, 0, none⟩) F y0 xw _ ((HTR.out.next (Below.refl _ R).drew).next hc) (by have := HKM.out; omega) (by have := HKM.out; omega) HMK.out HXB.out.1 HXB.out.2).mono ?_; rintro e w' ⟨rfl, hb⟩; rw [← HN2.out]; have hc := below_next hc (Nat.le_refl _) hb; clear hb))
          have HB10 := Lib.hid (show Below R.heap.size R w' from (Below.refl _ R).drew.trans hc)
          clear hc l1 l2 q0 q1 q2 qz u0 HN1 HN2
          obtain ⟨W10, rfl⟩ : ∃ W, W = w' := ⟨_, rfl⟩
          have u1 := (HB10.out.cell (p := ⟨b, 0, none⟩) hbl2).trans u1
          have hbl3 := Nat.lt_of_lt_of_le hbl2 HB10.out.size
          have BX0 := Lib.hid (BXR.out.next HB10.out)
          have BY0 := Lib.hid (BYR.out.next HB10.out)
          have HA1 := Lib.hid (HAR.out.next HB10.out)
          have HT1 := Lib.hid (HTR.out.next HB10.out)
          have HCR := Lib.hid (below_next HBR.out (Nat.le_refl _) HB10.out)
          have HYR := Lib.hid (HYC.out.next HCR.out)
          have p0 := BX0.out.cell 0
          have p1 := BX0.out.cell 1
          have p2 := BX0.out.cell 2
          have q0 := BY0.out.cell 0
          have q1 := BY0.out.cell 1
          have q2 := BY0.out.cell 2
          simp at p0 p1 p2 q0 q1 q2
          have zx : w.heap.size < W10.drew.heap.size := BX0.out.lt
          have zy : U3.heap.size < W10.drew.heap.size := BY0.out.lt
          have hc : Below W10.drew.heap.size W10.drew W10.drew := Below.refl _ _
          clear hbl2
          go_upto_region 12 with fail
          go_cut [116, 117, 118] (fun q l i wx => l = .int .i64 3 ∧ i = .int .i64 0 ∧ ∃ Q, q = .slice (some ⟨Q, 0, none⟩) 3 3 ∧ (∀ j, j < 3 → ZAtV wx Q j) ∧ Q < wx.heap.size ∧ Below W10.heap.size W10 wx)
          case first =>
            go_region_held3 (fun w' => w'.cell? ⟨w.heap.size, 0, none⟩ = some (.int .i64 k0) ∧ w'.cell? ⟨w.heap.size, 1, none⟩ = some (.slice A0 nw0 c0) ∧ w'.cell? ⟨w.heap.size, 2, none⟩ = some (.slice A0' n0 c0') ∧ w'.cell? ⟨U3.heap.size, 0, none⟩ = some (.int .i64 k) ∧ w'.cell? ⟨U3.heap.size, 1, none⟩ = some (.slice B mk d) ∧ w'.cell? ⟨U3.heap.size, 2, none⟩ = some (.slice (some ⟨gb, 0, none⟩) m d'))
              (first | (with_reducible exact ⟨drew_cellV p0, drew_cellV p1, drew_cellV p2, drew_cellV q0, drew_cellV q1, drew_cellV q2⟩) | (with_reducible exact ⟨(hc.cell (p := ⟨w.heap.size, 0, none⟩) zx).trans (drew_cellV p0), (hc.cell (p := ⟨w.heap.size, 1, none⟩) zx).trans (drew_cellV p1), (hc.cell (p := ⟨w.heap.size, 2, none⟩) zx).trans (drew_cellV p2), (hc.cell (p := ⟨U3.heap.size, 0, none⟩) zy).trans (drew_cellV q0), (hc.cell (p := ⟨U3.heap.size, 1, none⟩) zy).trans (drew_cellV q1), (hc.cell (p := ⟨U3.heap.size, 2, none⟩) zy).trans (drew_cellV q2)⟩) | go_keep)
              (first
                | (go_at_call 14; refine (HSPO.out k B (some ⟨gb, 0, none⟩) mk d m d' wd F _ ((HA1.out.next (Below.refl _ W10).drew).next hc) ((HT1.out.next (Below.refl _ W10).drew).next hc) (by have := HKM.out; omega) (by have := HKM.out; omega) (by omega) hmk0).mono ?_; rintro e wq ⟨k1, nw1, c1, g1, c1', A1, wd1, F1, rfl, lo, hi, ho, ht, hb⟩; have hc := below_next hc (Nat.le_refl _) hb; have r1 := ho.arr; have r1t := ht.tab; clear hb ho ht lo hi))
            obtain ⟨W, hW⟩ : ∃ W, W = wq.alloc (.cells #[.int .i64 k, .slice B mk d, .slice (some ⟨gb, 0, none⟩) m d', .int .i64 k0, .slice A0 nw0 c0, .slice A0' n0 c0', .int .i64 k1, .slice A1 nw1 c1, .slice (some ⟨g1, 0, none⟩) m c1'] 25) := ⟨_, rfl⟩
            have hbw : Below wq.heap.size wq W := by rw [hW]; exact (Below.refl _ _).alloc (Nat.le_refl _) _
            have hq : Blk W wq.heap.size 25 #[.int .i64 k, .slice B mk d, .slice (some ⟨gb, 0, none⟩) m d', .int .i64 k0, .slice A0 nw0 c0, .slice A0' n0 c0', .int .i64 k1, .slice A1 nw1 c1, .slice (some ⟨g1, 0, none⟩) m c1'] := by rw [hW]; exact Blk.new _ _ _
            have hcq : Below W10.heap.size W10 wq := (Below.refl _ W10).drew.trans hc
            have v0 : YV wq k0 A0 nw0 c0 A0' n0 c0' := HYR.out.next hcq
            have v1 : YV wq k B mk d (some ⟨gb, 0, none⟩) m d' := ⟨_, _, HA1.out.next hcq, HT1.out.next hcq⟩
            have v2 : YV wq k1 A1 nw1 c1 (some ⟨g1, 0, none⟩) m c1' := ⟨_, _, r1, r1t⟩
            have HBW : Hid (Below W10.heap.size W10 W) := below_next hcq (Nat.le_refl _) hbw
            have HYA : Hid (∀ j, j < 3 → ZAtV W wq.heap.size j) := by
              intro j hj
              rcases (by omega : j = 0 ∨ j = 1 ∨ j = 2) with e | e | e <;> subst e
              · exact ⟨_, _, _, _, _, _, _, hq.cell 0, hq.cell 1, hq.cell 2, v1.next hbw⟩
              · exact ⟨_, _, _, _, _, _, _, hq.cell 3, hq.cell 4, hq.cell 5, v0.next hbw⟩
              · exact ⟨_, _, _, _, _, _, _, hq.cell 6, hq.cell 7, hq.cell 8, v2.next hbw⟩
            have HQ := Lib.hid hq.lt
            rw [← hW]
            clear hW hbw hq v0 v1 v2 r1 r1t hc hcq
            go_wp2
            go_meet
            exact ⟨rfl, rfl, _, rfl, HYA.out, HQ.out, HBW.out⟩
          case rest =>
            obtain ⟨D, rfl⟩ : ∃ D, D = wc := ⟨_, rfl⟩
            obtain ⟨rfl, rfl, Q12, rfl, hYA, hQ12, hbD⟩ := hcut
            have HYA := Lib.hid hYA
            have HBD := Lib.hid hbD
            have HCD := Lib.hid (below_next HCR.out (Nat.le_refl _) hbD)
            have u1 := (hbD.cell (p := ⟨b, 0, none⟩) hbl3).trans u1
            have hbl4 := Nat.lt_of_lt_of_le hbl3 hbD.size
            have HRD := Lib.hid (HRC.out.next HCD.out)
            have H7D := Lib.hid (H7C.out.next HCD.out)
            clear hYA hbD hc p0 p1 p2 q0 q1 q2 zx zy BX0 BY0 HA1 HT1 HYR BXR BYR HAR HTR hbl3
            go_wp2_with fail
            go_loopw [118] (fun i wr => ∃ u : Nat, u ≤ 3 ∧ i = .int .i64 u ∧ Below D.heap.size D wr) (fun i _ => 3 - (intOf i).toNat)
            case atStart => exact ⟨0, by omega, rfl, Below.refl _ _⟩
            case round => as_aux_lemma =>
              obtain ⟨E, rfl⟩ : ∃ E, E = wr := ⟨_, rfl⟩
              obtain ⟨u, hu, rfl, hb⟩ := hrel
              have HBE := Lib.hid hb
              clear hb
              by_cases hul : u < 3
              · have hul2 : 0 ≤ (u : Int) ∧ (u : Int) < 3 := by omega
                have HUL := Lib.hid hul
                obtain ⟨ks, As, nws, cs, As', ns, cs', v0, v1, v2, hv⟩ := HYA.out u hul
                have v0 := (HBE.out.cell (p := ⟨Q12, u * 3, none⟩) hQ12).trans v0
                have v1 := (HBE.out.cell (p := ⟨Q12, u * 3 + 1, none⟩) hQ12).trans v1
                have v2 := (HBE.out.cell (p := ⟨Q12, u * 3 + 2, none⟩) hQ12).trans v2
                obtain ⟨wds, Fs, hva, hvt⟩ := hv.next HBE.out
                have HVA := Lib.hid hva
                have HVT := Lib.hid hvt
                clear hva hvt hv
                obtain ⟨X, hX⟩ : ∃ X, X = (E.alloc (.cells #[.int .i64 ks, .slice As nws cs, .slice As' ns cs'] 25)).alloc (.cells #[.slice A7 Ls.length c7, .slice Ar Lr.length cr] 26) := ⟨_, rfl⟩
                have BS := Lib.hid (show Blk X E.heap.size 25 #[.int .i64 ks, .slice As nws cs, .slice As' ns cs'] by rw [hX]; exact (Blk.new _ _ _).alloc _)
                have BK := Lib.hid (show Blk X (E.heap.size + 1) 26 #[.slice A7 Ls.length c7, .slice Ar Lr.length cr] by rw [hX]; exact Blk.newAt _ _ _ _ (by simp))
                have hbx : Below E.heap.size E X := by rw [hX]; exact ((Below.refl _ _).alloc (Nat.le_refl _) _).alloc (by simp) _
                have HX := Lib.hid hX
                have HBX := Lib.hid (below_next HBE.out (Nat.le_refl _) hbx)
                have HAX := Lib.hid (HVA.out.next hbx)
                have HTX := Lib.hid (HVT.out.next hbx)
                have HRX := Lib.hid (HRD.out.next HBX.out)
                have H7X := Lib.hid (H7D.out.next HBX.out)
                have u1 := (HBX.out.cell (p := ⟨b, 0, none⟩) hbl4).trans u1
                have hbl5 := Nat.lt_of_lt_of_le hbl4 HBX.out.size
                clear hX hbx HVA HVT
                go_wp2_with fail
                go_loopw [126] (fun i wr => ∃ s : Nat, s ≤ 2 ∧ i = .int .i64 s ∧ Below X.heap.size X wr) (fun i _ => 2 - (intOf i).toNat)
                case atStart => exact ⟨0, by omega, rfl, by rw [← HX.out]; exact Below.refl _ _⟩
                case round => as_aux_lemma =>
                  obtain ⟨G, rfl⟩ : ∃ G, G = wr := ⟨_, rfl⟩
                  obtain ⟨s, hs, rfl, hb⟩ := hrel
                  have HBG := Lib.hid hb
                  clear hb
                  by_cases hsl : s < 2
                  · have hsl2 : 0 ≤ (s : Int) ∧ (s : Int) < 2 := by omega
                    have HSL := Lib.hid hsl
                    have BKG := BK.out.next HBG.out
                    obtain ⟨Ak, ck, Lk, d0, hk, hfew⟩ : ∃ Ak ck Lk, G.cell? ⟨E.heap.size + 1, s, none⟩ = some (.slice Ak (List.length Lk) ck) ∧ TArr G (Lt G.heap.size) Ak ck Lk ∧ Few18 1048000 Lk := by
                      rcases (by omega : s = 0 ∨ s = 1) with e | e <;> subst e
                      · exact ⟨A7, c7, Ls, BKG.cell 0, H7X.out.next HBG.out, HLS.out⟩
                      · exact ⟨Ar, cr, Lr, BKG.cell 1, HRX.out.next HBG.out, HFR.out⟩
                    have HK := Lib.hid hk
                    have HFW := Lib.hid hfew
                    have BSG := Lib.hid (BS.out.next HBG.out)
                    have HAG := Lib.hid (HAX.out.next HBG.out)
                    have HTG := Lib.hid (HTX.out.next HBG.out)
                    have u1 := (HBG.out.cell (p := ⟨b, 0, none⟩) hbl5).trans u1
                    have l2 : b < G.drew.heap.size := Nat.lt_of_lt_of_le hbl5 HBG.out.size
                    have l1 : E.heap.size < G.drew.heap.size := BSG.out.lt
                    have q0 := BSG.out.cell 0
                    have q1 := BSG.out.cell 1
                    have q2 := BSG.out.cell 2
                    simp at q0 q1 q2
                    obtain ⟨M, r, hrec⟩ := recOf_get ks nws ns wds Fs Lk y0 y1
                    have HREC := Lib.hid hrec
                    have hrr : (r != r) = false := by simp
                    have hc : Below G.drew.heap.size G.drew G.drew := Below.refl _ _
                    clear BKG hk hfew hrec
                    go_upto_region 18 with fail
                    go_region_held3 (fun w' => w'.cell? ⟨E.heap.size, 0, none⟩ = some (.int .i64 ks) ∧ w'.cell? ⟨E.heap.size, 1, none⟩ = some (.slice As nws cs) ∧ w'.cell? ⟨E.heap.size, 2, none⟩ = some (.slice As' ns cs') ∧ w'.cell? ⟨b, 0, none⟩ = some (.int .i64 y0))
                      (first | (with_reducible exact ⟨drew_cellV q0, drew_cellV q1, drew_cellV q2, drew_cellV u1⟩) | (with_reducible exact ⟨(hc.cell (p := ⟨E.heap.size, 0, none⟩) l1).trans (drew_cellV q0), (hc.cell (p := ⟨E.heap.size, 1, none⟩) l1).trans (drew_cellV q1), (hc.cell (p := ⟨E.heap.size, 2, none⟩) l1).trans (drew_cellV q2), (hc.cell (p := ⟨b, 0, none⟩) l2).trans (drew_cellV u1)⟩))
                      (first
                        | (go_at_call 15; refine (devRecord_any ks As As' Ak nws cs ns cs' ck wds Fs Lk y0 y1 _ ((HAG.out.next (Below.refl _ G).drew).next hc) ((HTG.out.next (Below.refl _ G).drew).next hc) ((HK.out.next (Below.refl _ G).drew).next hc) (by have := HG.out; omega) (by have := HG.out; omega) HG.out.1 HG.out.2.1 HFW.out).mono ?_; intro e W18 h; obtain ⟨Aa, ca, rfl, ha, hb⟩ := HREC.out _ _ _ h; have HRA := Lib.hid ha; clear h ha; replace hc := below_next hc (Nat.le_refl _) hb; clear hb))
                    have HC18 := Lib.hid (show Below G.heap.size G W18 from (Below.refl _ G).drew.trans hc)
                    have BS8 := Lib.hid (BSG.out.next HC18.out)
                    have HA8 := Lib.hid (HAG.out.next HC18.out)
                    have HT8 := Lib.hid (HTG.out.next HC18.out)
                    have HK8 := Lib.hid (HK.out.next HC18.out)
                    have u1 := (HC18.out.cell (p := ⟨b, 0, none⟩) l2).trans u1
                    have l2 : b < W18.drew.heap.size := Nat.lt_of_lt_of_le l2 HC18.out.size
                    have l1 : E.heap.size < W18.drew.heap.size := BS8.out.lt
                    clear hc q0 q1 q2 d0 BSG HAG HTG HK
                    have q0 := BS8.out.cell 0
                    have q1 := BS8.out.cell 1
                    have q2 := BS8.out.cell 2
                    simp at q0 q1 q2
                    have hc : Below W18.drew.heap.size W18.drew W18.drew := Below.refl _ _
                    go_upto_region 19 with fail
                    go_region_held3 (fun w' => w'.cell? ⟨E.heap.size, 0, none⟩ = some (.int .i64 ks) ∧ w'.cell? ⟨E.heap.size, 1, none⟩ = some (.slice As nws cs) ∧ w'.cell? ⟨E.heap.size, 2, none⟩ = some (.slice As' ns cs') ∧ w'.cell? ⟨b, 0, none⟩ = some (.int .i64 y0))
                      (first | (with_reducible exact ⟨drew_cellV q0, drew_cellV q1, drew_cellV q2, drew_cellV u1⟩) | (with_reducible exact ⟨(hc.cell (p := ⟨E.heap.size, 0, none⟩) l1).trans (drew_cellV q0), (hc.cell (p := ⟨E.heap.size, 1, none⟩) l1).trans (drew_cellV q1), (hc.cell (p := ⟨E.heap.size, 2, none⟩) l1).trans (drew_cellV q2), (hc.cell (p := ⟨b, 0, none⟩) l2).trans (drew_cellV u1)⟩))
                      (first
                        | (go_at_call 16; refine (recordR_any ks As As' Ak nws cs ns cs' ck wds Fs Lk y0 y1 _ ((HA8.out.next (Below.refl _ W18).drew).next hc) ((HT8.out.next (Below.refl _ W18).drew).next hc) ((HK8.out.next (Below.refl _ W18).drew).next hc) (by have := HG.out; omega) (by have := HG.out; omega) HFW.out).mono ?_; intro e W19 h; obtain ⟨Ab, cb, rfl, ha, hb⟩ := HREC.out _ _ _ h; have HRB := Lib.hid ha; clear h ha; replace hc := below_next hc (Nat.le_refl _) hb; clear hb))
                    have HC19 := Lib.hid (show Below W18.heap.size W18 W19 from (Below.refl _ W18).drew.trans hc)
                    have HRA2 := Lib.hid (HRA.out.next HC19.out)
                    clear hc q0 q1 q2 u1 l1 l2 BS8 HA8 HT8 HK8
                    go_wp2_with fail
                    refine (same18_any Aa Ab ca cb M M W19 HRA2.out HRB.out).mono ?_
                    rintro e W20 ⟨q, rfl, hq, hb⟩
                    obtain rfl : q = true := hq.2 rfl
                    have HC20 := Lib.hid hb
                    clear hq hb
                    go_wp2_with fail
                    exact ⟨⟨s + 1, HSL.out, by go_num, below_next (below_next (below_next HBG.out (Nat.le_refl _) HC18.out) (Nat.le_refl _) HC19.out) (Nat.le_refl _) HC20.out⟩, by have := HSL.out; simp [intOf]; omega⟩
                  · obtain rfl : s = 2 := by omega
                    go_wp2_with fail
                    exact ⟨⟨u + 1, HUL.out, by go_num, below_next HBX.out (Nat.le_refl _) HBG.out⟩, by have := HUL.out; simp [intOf]; omega⟩
              · obtain rfl : u = 3 := by omega
                go_wp2_with fail
                exact ⟨⟨t + 1, hlt, by go_num, below_next HCD.out (Nat.le_refl _) HBE.out⟩, by simp [intOf]; omega⟩
        · obtain rfl : t = 2 := by omega
          go_wp2_with fail
          refine (awake19_any _).mono ?_
          rintro e w6 ⟨rfl, b6⟩
          have HB6 := Lib.hid b6
          clear b6
          go_wp2_with fail
          go_ret
          exact ⟨rfl, below_next (below_next HWC.out (Nat.le_refl _) HBR.out) (Nat.le_refl _) HB6.out⟩
end Go.Proofs.Ytjkbjbikofindaa
