/-
  The walk of ChainSteps.
-/
import Derived.Test.YtpbcpobbjoopnaaAw5
import Derived.Test.YtpbcpobbjoopnaaTakesp
namespace Go.Proofs.Ytpbcpobbjoopnaa
open Go.RowKit
set_option maxRecDepth 100000
set_option linter.unusedVariables false

theorem drew_cell {w : World} {p : Addr} {v : Value} (h : w.cell? p = some v) : w.drew.cell? p = some v := h
/-- The j-th space of a slice of spaces in block Q, not too great. -/
def ZAt (W : World) (Q j : Nat) : Prop := ∃ (s : Int) (A : Option Addr) (nw c : Nat) (A' : Option Addr) (n c' : Nat), nw ≤ 20000 ∧ n ≤ 80 ∧ W.cell? ⟨Q, j * 3, none⟩ = some (.int .i64 s) ∧ W.cell? ⟨Q, j * 3 + 1, none⟩ = some (.slice A nw c) ∧ W.cell? ⟨Q, j * 3 + 2, none⟩ = some (.slice A' n c') ∧ YV W s A nw c A' n c'
/-- The l-th of a slice of triples of numbers in block Q, and all of them. -/
def Tris (W : World) (Q : Nat) : Prop := ∀ l, l < 2 → TriAt W Q l

abbrev In64 (x : Int) : Prop := -9223372036854775808 ≤ x ∧ x ≤ 9223372036854775807
theorem tri1 {P0 : World} {S : Nat} {a k f x y z : Int} (hs : P0.heap.size = S) (ha : In64 a) (hk : In64 k) (hf : In64 f) (hx : In64 x) (hy : In64 y) (hz : In64 z) :
    Tris (((P0.alloc (.cells #[.int .i64 a, .int .i64 k, .int .i64 f] 3)).alloc (.cells #[.int .i64 x, .int .i64 y, .int .i64 z] 3)).alloc (.cells #[.slice (some ⟨S, 0, none⟩) 3 3, .slice (some ⟨S + 1, 0, none⟩) 3 3] 26)).drew (S + 1 + 1) ∧
      S + 1 + 1 < (((P0.alloc (.cells #[.int .i64 a, .int .i64 k, .int .i64 f] 3)).alloc (.cells #[.int .i64 x, .int .i64 y, .int .i64 z] 3)).alloc (.cells #[.slice (some ⟨S, 0, none⟩) 3 3, .slice (some ⟨S + 1, 0, none⟩) 3 3] 26)).drew.heap.size ∧
      Below P0.heap.size P0 (((P0.alloc (.cells #[.int .i64 a, .int .i64 k, .int .i64 f] 3)).alloc (.cells #[.int .i64 x, .int .i64 y, .int .i64 z] 3)).alloc (.cells #[.slice (some ⟨S, 0, none⟩) 3 3, .slice (some ⟨S + 1, 0, none⟩) 3 3] 26)).drew := by
  subst hs
  obtain ⟨P, hP⟩ : ∃ P, P = (((P0.alloc (.cells #[.int .i64 a, .int .i64 k, .int .i64 f] 3)).alloc (.cells #[.int .i64 x, .int .i64 y, .int .i64 z] 3)).alloc (.cells #[.slice (some ⟨P0.heap.size, 0, none⟩) 3 3, .slice (some ⟨P0.heap.size + 1, 0, none⟩) 3 3] 26)).drew := ⟨_, rfl⟩
  have b1 : Blk P P0.heap.size 3 #[.int .i64 a, .int .i64 k, .int .i64 f] := by rw [hP]; exact ((Blk.new P0 _ _).alloc _).alloc _
  have b2 : Blk P (P0.heap.size + 1) 3 #[.int .i64 x, .int .i64 y, .int .i64 z] := by rw [hP]; exact (Blk.newAt _ _ _ _ (by simp)).alloc _
  have b3 : Blk P (P0.heap.size + 1 + 1) 26 #[.slice (some ⟨P0.heap.size, 0, none⟩) 3 3, .slice (some ⟨P0.heap.size + 1, 0, none⟩) 3 3] := by rw [hP]; exact Blk.newAt _ _ _ _ (by simp)
  rw [← hP]
  refine ⟨fun l hl => ?_, b3.lt, by rw [hP]; exact ((((Below.refl _ _).alloc (Nat.le_refl _) _).alloc (by simp) _).alloc (by simp; omega) _).drew⟩
  rcases (by omega : l = 0 ∨ l = 1) with e | e <;> subst e
  · exact ⟨_, a, k, f, b1.lt, b3.cell 0, b1.cell 0, b1.cell 1, b1.cell 2, ha, hk, hf⟩
  · exact ⟨_, x, y, z, b2.lt, b3.cell 1, b2.cell 0, b2.cell 1, b2.cell 2, hx, hy, hz⟩
theorem tri2 {P0 : World} {S : Nat} {a k f x y z : Int} (hs : P0.heap.size = S) (ha : In64 a) (hk : In64 k) (hf : In64 f) (hx : In64 x) (hy : In64 y) (hz : In64 z) :
    Tris (((P0.alloc (.cells #[.int .i64 x, .int .i64 y, .int .i64 z] 3)).alloc (.cells #[.int .i64 a, .int .i64 k, .int .i64 f] 3)).alloc (.cells #[.slice (some ⟨S + 1, 0, none⟩) 3 3, .slice (some ⟨S, 0, none⟩) 3 3] 26)).drew (S + 1 + 1) ∧
      S + 1 + 1 < (((P0.alloc (.cells #[.int .i64 x, .int .i64 y, .int .i64 z] 3)).alloc (.cells #[.int .i64 a, .int .i64 k, .int .i64 f] 3)).alloc (.cells #[.slice (some ⟨S + 1, 0, none⟩) 3 3, .slice (some ⟨S, 0, none⟩) 3 3] 26)).drew.heap.size ∧
      Below P0.heap.size P0 (((P0.alloc (.cells #[.int .i64 x, .int .i64 y, .int .i64 z] 3)).alloc (.cells #[.int .i64 a, .int .i64 k, .int .i64 f] 3)).alloc (.cells #[.slice (some ⟨S + 1, 0, none⟩) 3 3, .slice (some ⟨S, 0, none⟩) 3 3] 26)).drew := by
  subst hs
  obtain ⟨P, hP⟩ : ∃ P, P = (((P0.alloc (.cells #[.int .i64 x, .int .i64 y, .int .i64 z] 3)).alloc (.cells #[.int .i64 a, .int .i64 k, .int .i64 f] 3)).alloc (.cells #[.slice (some ⟨P0.heap.size + 1, 0, none⟩) 3 3, .slice (some ⟨P0.heap.size, 0, none⟩) 3 3] 26)).drew := ⟨_, rfl⟩
  have b2 : Blk P P0.heap.size 3 #[.int .i64 x, .int .i64 y, .int .i64 z] := by rw [hP]; exact ((Blk.new P0 _ _).alloc _).alloc _
  have b1 : Blk P (P0.heap.size + 1) 3 #[.int .i64 a, .int .i64 k, .int .i64 f] := by rw [hP]; exact (Blk.newAt _ _ _ _ (by simp)).alloc _
  have b3 : Blk P (P0.heap.size + 1 + 1) 26 #[.slice (some ⟨P0.heap.size + 1, 0, none⟩) 3 3, .slice (some ⟨P0.heap.size, 0, none⟩) 3 3] := by rw [hP]; exact Blk.newAt _ _ _ _ (by simp)
  rw [← hP]
  refine ⟨fun l hl => ?_, b3.lt, by rw [hP]; exact ((((Below.refl _ _).alloc (Nat.le_refl _) _).alloc (by simp) _).alloc (by simp; omega) _).drew⟩
  rcases (by omega : l = 0 ∨ l = 1) with e | e <;> subst e
  · exact ⟨_, a, k, f, b1.lt, b3.cell 0, b1.cell 0, b1.cell 1, b1.cell 2, ha, hk, hf⟩
  · exact ⟨_, x, y, z, b2.lt, b3.cell 1, b2.cell 0, b2.cell 1, b2.cell 2, hx, hy, hz⟩

set_option maxHeartbeats 16000000 in
theorem walkSteps (s : Int) (A A' : Option Addr) (nw c n c' : Nat) (wd0 : Nat → Int) (F0' : Nat → Fr) (Al : Option Addr) (nl cl : Nat) (a k_ first what at_ by_ : Int) (w : World) (hA : Arr w w.heap.size A nw c wd0) (hT : Tab w w.heap.size A' n c' F0') (hL : ListP w w.heap.size Al nl cl)
    (a0 : -9223372036854775808 ≤ a) (a1 : a ≤ 9223372036854775807) (b0 : -9223372036854775808 ≤ k_) (b1 : k_ ≤ 9223372036854775807) (g0 : -9223372036854775808 ≤ first) (g1 : first ≤ 9223372036854775807) (c0 : -9223372036854775808 ≤ what) (c1 : what ≤ 9223372036854775807) (d0 : -9223372036854775808 ≤ at_) (d1 : at_ ≤ 9223372036854775807) (e0 : -9223372036854775808 ≤ by_) (e1 : by_ ≤ 9223372036854775807) :
    Calls Try.prog 4 #[.agg #[.int .i64 s, .slice A nw c, .slice A' n c'], .slice Al nl cl, .int .i64 a, .int .i64 k_, .int .i64 first, .int .i64 what, .int .i64 at_, .int .i64 by_] w fun e w' => e = .returned (.bool true) ∧ Below w.heap.size w w' := by
  obtain ⟨U, hU⟩ : ∃ U, U = w.alloc (.cells #[.int .i64 s, .slice A nw c, .slice A' n c'] 25) := ⟨_, rfl⟩
  have BX := Lib.hid (show Blk U w.heap.size 25 #[.int .i64 s, .slice A nw c, .slice A' n c'] by rw [hU]; exact Blk.new _ _ _)
  have hbu : Below w.heap.size w U := by rw [hU]; exact (Below.refl _ _).alloc (Nat.le_refl _) _
  have HBU := Lib.hid hbu
  have HU := Lib.hid hU
  have HL := Lib.hid (hL.next hbu)
  have HA0 := Lib.hid hA
  have HT0 := Lib.hid hT
  clear hL hU hbu hA hT
  go_enter Try.func4, Try.ntmps4
  go_wp2_with fail
  rw [← HU.out]
  refine (small_any s A A' nw c n c' U).mono ?_
  rintro e U1 ⟨rfl, hb⟩
  have BX1 := Lib.hid (BX.out.next hb)
  have HBU1 := Lib.hid (below_next HBU.out (Nat.le_refl _) hb)
  have HL1 := Lib.hid (HL.out.next hb)
  clear hb BX HBU HL HU
  obtain ⟨sm, hsm, hn⟩ : ∃ b, (decide (nw ≤ 3000) && decide (n ≤ 80)) = b ∧ (b = true → nw ≤ 3000 ∧ n ≤ 80) := ⟨_, rfl, by simp⟩
  rw [hsm]
  clear hsm
  rcases sm with _ | _
  · go_wp2_with (go_at_call 8; refine (awake5_any _).mono ?_; rintro e w6 ⟨rfl, b6⟩; have HB6 := Lib.hid b6; clear b6)
    go_ret
    exact ⟨rfl, below_next HBU1.out (Nat.le_refl _) HB6.out⟩
  · have hnb := hn rfl
    clear hn
    go_wp2_with fail
    refine (deck_any Al nl cl U1 HL1.out).mono ?_
    rintro e U2 ⟨rfl, hd, hb, hz⟩
    have HDK := Lib.hid hd
    have BX2 := Lib.hid (BX1.out.next hb)
    have HBU2 := Lib.hid (below_next HBU1.out (Nat.le_refl _) hb)
    have zz := BX1.out.lt
    clear hd hb BX1 HBU1 HL1
    go_wp2_with fail
    refine (space_any U1.heap.size U2 HDK.out).mono ?_
    rintro e U3 ⟨k, m, B, d, gb, d', wd, F, L, rfl, k0, k1, m0, m1, hoA, hoT, _, _, hG⟩
    have BX3 := Lib.hid (BX2.out.turn hG (by omega))
    have HBU3 := Lib.hid (below_turn HBU2.out hG (by omega))
    have HA3 := Lib.hid hoA.arr
    have HT3 := Lib.hid hoT.tab
    have hmk0 : 0 < m * 2 ^ k := Nat.mul_pos (by omega) (Nat.two_pow_pos k)
    have hmk1 : m * 2 ^ k ≤ 16384 := prod_le (by omega) (by omega)
    obtain ⟨mk, hmk⟩ : ∃ mk, mk = m * 2 ^ k := ⟨_, rfl⟩
    rw [← hmk] at HA3 hmk0 hmk1 ⊢
    clear hG BX2 HBU2 HDK hz hoA hoT hmk
    go_wp2_with fail
    obtain ⟨V, hV⟩ : ∃ V, V = U3.alloc (.cells #[.int .i64 k, .slice B mk d, .slice (some ⟨gb, 0, none⟩) m d'] 25) := ⟨_, rfl⟩
    have hbv : Below U3.heap.size U3 V := by rw [hV]; exact (Below.refl _ _).alloc (Nat.le_refl _) _
    have BY := Lib.hid (show Blk V U3.heap.size 25 #[.int .i64 k, .slice B mk d, .slice (some ⟨gb, 0, none⟩) m d'] by rw [hV]; exact Blk.new _ _ _)
    have BX4 := Lib.hid (BX3.out.next hbv)
    have HBV := Lib.hid (below_next HBU3.out (Nat.le_refl _) hbv)
    have HR4 := Lib.hid (show YV V.drew s A nw c A' n c' from ⟨wd0, F0', (HA0.out.below HBV.out).more HBV.out.size, (HT0.out.below HBV.out).more HBV.out.size⟩)
    have HSA := Lib.hid (show Arr V.drew V.drew.heap.size B mk d wd from (show Arr V V.heap.size B mk d wd from HA3.out.next hbv))
    have HST := Lib.hid (show Tab V.drew V.drew.heap.size (some ⟨gb, 0, none⟩) m d' F from (show Tab V V.heap.size (some ⟨gb, 0, none⟩) m d' F from HT3.out.next hbv))
    rw [← hV]
    clear hV hbv BX3 HBU3 HA3 HT3 HA0 HT0
    have p0 := BX4.out.cell 0
    have p1 := BX4.out.cell 1
    have p2 := BX4.out.cell 2
    have q0 := BY.out.cell 0
    have q1 := BY.out.cell 1
    have q2 := BY.out.cell 2
    simp at p0 p1 p2 q0 q1 q2
    have hc : Below V.drew.heap.size V.drew V.drew := Below.refl _ _
    have zx : w.heap.size < V.drew.heap.size := BX4.out.lt
    have zy : U3.heap.size < V.drew.heap.size := BY.out.lt
    go_upto_region 4 with fail
    go_cut [48, 49, 50] (fun q l i wx => l = .int .i64 3 ∧ i = .int .i64 0 ∧ ∃ Q, q = .slice (some ⟨Q, 0, none⟩) 3 3 ∧ (∀ j, j < 3 → ZAt wx Q j) ∧ Q < wx.heap.size ∧ Below w.heap.size w wx)
    case first =>
      go_region_held3 (fun w' => w'.cell? ⟨w.heap.size, 0, none⟩ = some (.int .i64 s) ∧ w'.cell? ⟨w.heap.size, 1, none⟩ = some (.slice A nw c) ∧ w'.cell? ⟨w.heap.size, 2, none⟩ = some (.slice A' n c') ∧ w'.cell? ⟨U3.heap.size, 0, none⟩ = some (.int .i64 k) ∧ w'.cell? ⟨U3.heap.size, 1, none⟩ = some (.slice B mk d) ∧ w'.cell? ⟨U3.heap.size, 2, none⟩ = some (.slice (some ⟨gb, 0, none⟩) m d'))
        (first | exact ⟨p0, p1, p2, q0, q1, q2⟩ | exact ⟨(hc.cell (p := ⟨_, 0, none⟩) zx).trans p0, (hc.cell (p := ⟨_, 1, none⟩) zx).trans p1, (hc.cell (p := ⟨_, 2, none⟩) zx).trans p2, (hc.cell (p := ⟨_, 0, none⟩) zy).trans q0, (hc.cell (p := ⟨_, 1, none⟩) zy).trans q1, (hc.cell (p := ⟨_, 2, none⟩) zy).trans q2⟩ | go_keep)
        (first
          | (go_at_call 12; refine (spoilt_any k B (some ⟨gb, 0, none⟩) mk d m d' wd F what at_ by_ _ (HSA.out.next hc) (HST.out.next hc) (by omega) (by omega) (by omega) hmk0 c0 c1 d0 d1 e0 e1).mono ?_; rintro e wq ⟨k1, nw1, c1, g1, c1', A1, wd1, F1, rfl, lo, hi, ho, ht, hb⟩; have hc := below_next hc (Nat.le_refl _) hb; have r1 := ho.arr; have r1t := ht.tab))
      obtain ⟨W, hW⟩ : ∃ W, W = wq.alloc (.cells #[.int .i64 k, .slice B mk d, .slice (some ⟨gb, 0, none⟩) m d', .int .i64 s, .slice A nw c, .slice A' n c', .int .i64 k1, .slice A1 nw1 c1, .slice (some ⟨g1, 0, none⟩) m c1'] 25) := ⟨_, rfl⟩
      have hbw : Below wq.heap.size wq W := by rw [hW]; exact (Below.refl _ _).alloc (Nat.le_refl _) _
      have hq : Blk W wq.heap.size 25 #[.int .i64 k, .slice B mk d, .slice (some ⟨gb, 0, none⟩) m d', .int .i64 s, .slice A nw c, .slice A' n c', .int .i64 k1, .slice A1 nw1 c1, .slice (some ⟨g1, 0, none⟩) m c1'] := by rw [hW]; exact Blk.new _ _ _
      have v0 : YV V.drew s A nw c A' n c' := HR4.out
      have v1 : YV V.drew k B mk d (some ⟨gb, 0, none⟩) m d' := ⟨_, _, HSA.out, HST.out⟩
      have v2 : YV wq k1 A1 nw1 c1 (some ⟨g1, 0, none⟩) m c1' := ⟨_, _, r1, r1t⟩
      have HBW : Hid (Below w.heap.size w W) := below_next (below_next HBV.out.drew (Nat.le_refl _) hc) (Nat.le_refl _) hbw
      have HYA : Hid (∀ j, j < 3 → ZAt W wq.heap.size j) := by
        intro j hj
        rcases (by omega : j = 0 ∨ j = 1 ∨ j = 2) with e | e | e <;> subst e
        · exact ⟨_, _, _, _, _, _, _, by omega, by omega, hq.cell 0, hq.cell 1, hq.cell 2, (v1.next hc).next hbw⟩
        · exact ⟨_, _, _, _, _, _, _, by omega, by omega, hq.cell 3, hq.cell 4, hq.cell 5, (v0.next hc).next hbw⟩
        · exact ⟨_, _, _, _, _, _, _, by omega, by omega, hq.cell 6, hq.cell 7, hq.cell 8, v2.next hbw⟩
      have HQ := Lib.hid hq.lt
      rw [← hW]
      clear hW hbw hq v0 v1 v2 r1 r1t hc
      go_wp2
      go_meet
      exact ⟨rfl, rfl, _, rfl, HYA.out, HQ.out, HBW.out⟩
    case rest =>
      obtain ⟨rfl, rfl, Q, rfl, hYA, hQ, hB⟩ := hcut
      obtain ⟨C0, rfl⟩ : ∃ C0, C0 = wc := ⟨_, rfl⟩
      have HYA := Lib.hid hYA
      have HBC := Lib.hid hB
      clear hYA hB HR4 HSA HST BX4 BY hc p0 p1 p2 q0 q1 q2 zx zy HBV
      go_wp2_with fail
      go_loopw [50] (fun i wr => ∃ j : Nat, j ≤ 3 ∧ i = .int .i64 j ∧ Below C0.heap.size C0 wr) (fun i _ => 3 - (intOf i).toNat)
      case atStart => exact ⟨0, Nat.zero_le _, rfl, Below.refl _ _⟩
      case round =>
        obtain ⟨R, rfl⟩ : ∃ R, R = wr := ⟨_, rfl⟩
        obtain ⟨j, hj, rfl, hb⟩ := hrel
        by_cases hlt : j < 3
        · obtain ⟨s, A, nw, c, A', n, c', hbw, hbn, x0, x1, x2, hv⟩ := HYA.out j hlt
          have zr : C0.heap.size ≤ R.heap.size := hb.size
          have x0' := (hb.cell (p := ⟨Q, j * 3, none⟩) hQ).trans x0
          have x1' := (hb.cell (p := ⟨Q, j * 3 + 1, none⟩) hQ).trans x1
          have x2' := (hb.cell (p := ⟨Q, j * 3 + 2, none⟩) hQ).trans x2
          obtain ⟨wd, F, hva, hvt⟩ := hv.next hb
          have hj2 : 0 ≤ (j : Int) ∧ (j : Int) < 3 := by omega
          obtain ⟨P0, hP0⟩ : ∃ P, P = R.alloc (.cells #[.int .i64 s, .slice A nw c, .slice A' n c'] 25) := ⟨_, rfl⟩
          have bx0 : Blk P0 R.heap.size 25 #[.int .i64 s, .slice A nw c, .slice A' n c'] := by rw [hP0]; exact Blk.new _ _ _
          have hbp0 : Below R.heap.size R P0 := by rw [hP0]; exact (Below.refl _ _).alloc (Nat.le_refl _) _
          have hs0 : P0.heap.size = R.heap.size + 1 := by rw [hP0]; simp
          have HP0 := Lib.hid hP0
          clear hP0
          have nm1 : (nw : Int) + 2 ≤ 9223372036854775807 := by omega
          have nm2 : (n : Int) + 2 ≤ 9223372036854775807 := by omega
          obtain ⟨z0, hz0, z00, z01⟩ : ∃ z, a % ((nw : Int) + 2) = z ∧ 0 ≤ z ∧ z < 9223372036854775807 := ⟨_, rfl, Int.emod_nonneg _ (by omega), by have := Int.emod_lt_of_pos a (show 0 < (nw : Int) + 2 by omega); omega⟩
          obtain ⟨z1, hz1, z10, z11⟩ : ∃ z, k_ % 60 = z ∧ 0 ≤ z ∧ z < 60 := ⟨_, rfl, by omega, by omega⟩
          obtain ⟨z2, hz2, z20, z21⟩ : ∃ z, first % ((n : Int) + 2) = z ∧ 0 ≤ z ∧ z < 9223372036854775807 := ⟨_, rfl, Int.emod_nonneg _ (by omega), by have := Int.emod_lt_of_pos first (show 0 < (n : Int) + 2 by omega); omega⟩
          have HZ0 := Lib.hid hz0
          have HZ1 := Lib.hid hz1
          have HZ2 := Lib.hid hz2
          have y0 := bx0.cell 0
          have y1 := bx0.cell 1
          have y2 := bx0.cell 2
          have yz : R.heap.size < P0.heap.size := bx0.lt
          simp at y0 y1 y2
          have bS0 : (1 : Int) ≤ (nw : Int) + 2 := by omega
          have bS1 : (1 : Int) ≤ (n : Int) + 2 := by omega
          have s1 : IntKind.i64.wrap ((nw : Int) + 2) = (nw : Int) + 2 := IntWalk.i64_in _ (by omega)
          have s2 : IntKind.i64.wrap ((n : Int) + 2) = (n : Int) + 2 := IntWalk.i64_in _ (by omega)
          have s3 : IntKind.i64.wrap (z0 - 1) = z0 - 1 := IntWalk.i64_in _ (by omega)
          have s4 : IntKind.i64.wrap (z1 - 1) = z1 - 1 := IntWalk.i64_in _ (by omega)
          have s5 : IntKind.i64.wrap (z2 - 1) = z2 - 1 := IntWalk.i64_in _ (by omega)
          have HBZ0 := Lib.hid (show -9223372036854775808 ≤ z0 - 1 ∧ z0 - 1 ≤ 9223372036854775807 by omega)
          have HBZ1 := Lib.hid (show -9223372036854775808 ≤ z1 - 1 ∧ z1 - 1 ≤ 9223372036854775807 by omega)
          have HBZ2 := Lib.hid (show -9223372036854775808 ≤ z2 - 1 ∧ z2 - 1 ≤ 9223372036854775807 by omega)
          clear hz0 hz1 hz2
          go_upto_region 7 with fail
          rw [← HP0.out]
          clear x0' x1' x2' x0 x1 x2 hv
          go_cut [76, 77, 78] (fun v len i wx => len = .int .i64 2 ∧ i = .int .i64 0 ∧ ∃ Q, v = .slice (some ⟨Q, 0, none⟩) 2 2 ∧ Tris wx Q ∧ Q < wx.heap.size ∧ Below P0.heap.size P0 wx)
          case first =>
            go_region_held3 (fun w' => w'.cell? ⟨R.heap.size, 1, none⟩ = some (.slice A nw c) ∧ w'.cell? ⟨R.heap.size, 2, none⟩ = some (.slice A' n c'))
              (first | (with_reducible exact ⟨drew_cell y1, drew_cell y2⟩) | (with_reducible exact ⟨drew_cell (Lib.cell?_alloc_some _ y1), drew_cell (Lib.cell?_alloc_some _ y2)⟩) | (with_reducible exact ⟨drew_cell (Lib.cell?_alloc_some _ (Lib.cell?_alloc_some _ y1)), drew_cell (Lib.cell?_alloc_some _ (Lib.cell?_alloc_some _ y2))⟩) | (with_reducible exact ⟨drew_cell (Lib.cell?_alloc_some _ (Lib.cell?_alloc_some _ (Lib.cell?_alloc_some _ y1))), drew_cell (Lib.cell?_alloc_some _ (Lib.cell?_alloc_some _ (Lib.cell?_alloc_some _ y2)))⟩) | go_keep)
              (first
                | (go_at_call 14; (with_reducible show Calls _ _ #[.int .i64 a, _] _ _); refine (mod_any a ((nw : Int) + 2) bS0 nm1 a0 a1 _).mono ?_; rintro e w' ⟨rfl, rfl⟩; rw [HZ0.out])
                | (go_at_call 14; (with_reducible show Calls _ _ #[.int .i64 k_, _] _ _); refine (mod_any k_ 60 (by decide) (by decide) b0 b1 _).mono ?_; rintro e w' ⟨rfl, rfl⟩; rw [HZ1.out])
                | (go_at_call 14; (with_reducible show Calls _ _ #[.int .i64 first, _] _ _); refine (mod_any first ((n : Int) + 2) bS1 nm2 g0 g1 _).mono ?_; rintro e w' ⟨rfl, rfl⟩; rw [HZ2.out]))
            all_goals
              go_wp2
              go_meet
              first
              | exact ⟨rfl, rfl, _, rfl, tri1 hs0 ⟨a0, a1⟩ ⟨b0, b1⟩ ⟨g0, g1⟩ HBZ0.out HBZ1.out HBZ2.out⟩
              | exact ⟨rfl, rfl, _, rfl, tri2 hs0 ⟨a0, a1⟩ ⟨b0, b1⟩ ⟨g0, g1⟩ HBZ0.out HBZ1.out HBZ2.out⟩
          case rest =>
            obtain ⟨P, rfl⟩ : ∃ P, P = wc := ⟨_, rfl⟩
            obtain ⟨rfl, rfl, Q2, rfl, hTri, hQ2, hbP⟩ := hcut
            have HTRI := Lib.hid hTri
            have BXP := Lib.hid (bx0.next hbP)
            have HRP := Lib.hid (below_next hbp0 (Nat.le_refl _) hbP)
            have HVA := Lib.hid (hva.next HRP.out)
            have HVT := Lib.hid (hvt.next HRP.out)
            have HBP := Lib.hid (below_next hb (Nat.le_refl _) HRP.out)
            clear hTri hbP bx0 hbp0 hs0 HP0 hva hvt hb y0 y1 y2 yz s1 s2 s3 s4 s5 z00 z01 z10 z11 z20 z21 HZ0 HZ1 HZ2 HBZ0 HBZ1 HBZ2
            go_wp2_with fail
            go_loopw [78] (fun i wr2 => ∃ l : Nat, l ≤ 2 ∧ i = .int .i64 l ∧ Below P.heap.size P wr2) (fun i _ => 2 - (intOf i).toNat)
            case atStart => exact ⟨0, Nat.zero_le _, rfl, Below.refl _ _⟩
            case round =>
              obtain ⟨W0, rfl⟩ : ∃ W0, W0 = wr := ⟨_, rfl⟩
              obtain ⟨l, hl, rfl, hb⟩ := hrel
              by_cases hll : l < 2
              · obtain ⟨b, x, y, z, zb, t0, t1, t2, t3, hx, hy, hz⟩ := HTRI.out l hll
                have t0' := (hb.cell (p := ⟨Q2, l, none⟩) hQ2).trans t0
                have zq2 : Q2 < W0.heap.size := Nat.lt_of_lt_of_le hQ2 hb.size
                have I0 := Lib.hid (show InP W0 R.heap.size b s (.slice A nw c) A' n c' x y z from ⟨(BXP.out.next hb).cell 0, (BXP.out.next hb).cell 1, (BXP.out.next hb).cell 2, (hb.cell zb).trans t1, (hb.cell zb).trans t2, (hb.cell zb).trans t3, (BXP.out.next hb).lt, Nat.lt_of_lt_of_le zb hb.size⟩)
                have HAW0 := Lib.hid (HVA.out.next hb)
                have HTW0 := Lib.hid (HVT.out.next hb)
                have K0 := Lib.hid hb
                obtain ⟨v1, hv1⟩ : ∃ v, v = stpV s nw wd n F x y := ⟨_, rfl⟩
                obtain ⟨e1', he1⟩ : ∃ v, v = stpE s nw wd n F x y := ⟨_, rfl⟩
                obtain ⟨v2, hv2⟩ : ∃ v, v = idxV s nw wd n F z x := ⟨_, rfl⟩
                obtain ⟨e2', he2⟩ : ∃ v, v = idxE s nw wd n F z x := ⟨_, rfl⟩
                have HV1 := Lib.hid hv1
                have HE1 := Lib.hid he1
                have HV2 := Lib.hid hv2
                have HE2 := Lib.hid he2
                clear hb t0 t1 t2 t3 hv1 he1 hv2 he2
                have hl2 : 0 ≤ (l : Int) ∧ (l : Int) < 2 := by omega
                go_upto_region 10 with fail
                clear t0'
                obtain ⟨x0, x1, x2, y0, y1, y2, zx, zt⟩ := I0.out
                have I0d : Hid (InP W0.drew R.heap.size b s (.slice A nw c) A' n c' x y z) := I0.out
                have HAX0 : Hid (Arr W0.drew W0.drew.heap.size A nw c wd) := HAW0.out
                have HTX0 : Hid (Tab W0.drew W0.drew.heap.size A' n c' F) := HTW0.out
                go_wp2_with fail
                go_region_held3 (fun w' => w'.cell? ⟨R.heap.size, 0, none⟩ = some (.int .i64 s) ∧ w'.cell? ⟨R.heap.size, 1, none⟩ = some (.slice A nw c) ∧ w'.cell? ⟨R.heap.size, 2, none⟩ = some (.slice A' n c') ∧ w'.cell? ⟨b, 0, none⟩ = some (.int .i64 x) ∧ w'.cell? ⟨b, 1, none⟩ = some (.int .i64 y) ∧ w'.cell? ⟨b, 2, none⟩ = some (.int .i64 z))
                  (first | exact ⟨x0, x1, x2, y0, y1, y2⟩ | exact ⟨u0, u1, u2, u3, u4, u5⟩)
                  (first | (go_at_call 21; refine (step5_any s A A' nw c n c' wd F x y _ (HAX0.out) (HTX0.out) hx.1 hx.2 hy.1 hy.2).mono ?_; rintro e W1 ⟨rfl, hb⟩; rw [← HV1.out, ← HE1.out]; obtain ⟨u0, u1, u2, u3, u4, u5, _, _⟩ := I0d.out.next hb))
                have I1 := Lib.hid (I0d.out.next hb)
                have HAW1 := Lib.hid (HAX0.out.next hb)
                have HTW1 := Lib.hid (HTX0.out.next hb)
                have K1 := Lib.hid (below_next K0.out.drew (Nat.le_refl _) hb)
                clear x0 x1 x2 y0 y1 y2 zx zt u0 u1 u2 u3 u4 u5 hb I0 I0d K0 HAW0 HTW0 HAX0 HTX0
                obtain ⟨x0, x1, x2, y0, y1, y2, zx, zt⟩ := I1.out
                have I1d : Hid (InP W1.drew R.heap.size b s (.slice A nw c) A' n c' x y z) := I1.out
                have HAX1 : Hid (Arr W1.drew W1.drew.heap.size A nw c wd) := HAW1.out
                have HTX1 : Hid (Tab W1.drew W1.drew.heap.size A' n c' F) := HTW1.out
                go_wp2_with fail
                go_region_held3 (fun w' => w'.cell? ⟨R.heap.size, 0, none⟩ = some (.int .i64 s) ∧ w'.cell? ⟨R.heap.size, 1, none⟩ = some (.slice A nw c) ∧ w'.cell? ⟨R.heap.size, 2, none⟩ = some (.slice A' n c') ∧ w'.cell? ⟨b, 0, none⟩ = some (.int .i64 x) ∧ w'.cell? ⟨b, 1, none⟩ = some (.int .i64 y) ∧ w'.cell? ⟨b, 2, none⟩ = some (.int .i64 z))
                  (first | exact ⟨x0, x1, x2, y0, y1, y2⟩ | exact ⟨u0, u1, u2, u3, u4, u5⟩)
                  (first | (go_at_call 22; refine (refStep5_any s A A' nw c n c' wd F x y _ (HAX1.out) (HTX1.out) hy.1 hy.2).mono ?_; rintro e W2 ⟨rfl, hb⟩; rw [← HV1.out, ← HE1.out]; obtain ⟨u0, u1, u2, u3, u4, u5, _, _⟩ := I1d.out.next hb))
                have I2 := Lib.hid (I1d.out.next hb)
                have HAW2 := Lib.hid (HAX1.out.next hb)
                have HTW2 := Lib.hid (HTX1.out.next hb)
                have K2 := Lib.hid (below_next K1.out.drew (Nat.le_refl _) hb)
                clear x0 x1 x2 y0 y1 y2 zx zt u0 u1 u2 u3 u4 u5 hb I1 I1d K1 HAW1 HTW1 HAX1 HTX1
                obtain ⟨x0, x1, x2, y0, y1, y2, zx, zt⟩ := I2.out
                have I2d : Hid (InP W2.drew R.heap.size b s (.slice A nw c) A' n c' x y z) := I2.out
                have HAX2 : Hid (Arr W2.drew W2.drew.heap.size A nw c wd) := HAW2.out
                have HTX2 : Hid (Tab W2.drew W2.drew.heap.size A' n c' F) := HTW2.out
                go_wp2_with fail
                go_region_held3 (fun w' => w'.cell? ⟨R.heap.size, 0, none⟩ = some (.int .i64 s) ∧ w'.cell? ⟨R.heap.size, 1, none⟩ = some (.slice A nw c) ∧ w'.cell? ⟨R.heap.size, 2, none⟩ = some (.slice A' n c') ∧ w'.cell? ⟨b, 0, none⟩ = some (.int .i64 x) ∧ w'.cell? ⟨b, 1, none⟩ = some (.int .i64 y) ∧ w'.cell? ⟨b, 2, none⟩ = some (.int .i64 z))
                  (first | exact ⟨x0, x1, x2, y0, y1, y2⟩ | exact ⟨u0, u1, u2, u3, u4, u5⟩)
                  (first | (go_at_call 23; refine (index5_any s A A' nw c n c' wd F z x _ (HAX2.out) (HTX2.out) hx.1 hx.2).mono ?_; rintro e W3 ⟨rfl, hb⟩; rw [← HV2.out, ← HE2.out]; obtain ⟨u0, u1, u2, u3, u4, u5, _, _⟩ := I2d.out.next hb))
                have I3 := Lib.hid (I2d.out.next hb)
                have HAW3 := Lib.hid (HAX2.out.next hb)
                have HTW3 := Lib.hid (HTX2.out.next hb)
                have K3 := Lib.hid (below_next K2.out.drew (Nat.le_refl _) hb)
                clear x0 x1 x2 y0 y1 y2 zx zt u0 u1 u2 u3 u4 u5 hb I2 I2d K2 HAW2 HTW2 HAX2 HTX2
                obtain ⟨x0, x1, x2, y0, y1, y2, zx, zt⟩ := I3.out
                have I3d : Hid (InP W3.drew R.heap.size b s (.slice A nw c) A' n c' x y z) := I3.out
                have HAX3 : Hid (Arr W3.drew W3.drew.heap.size A nw c wd) := HAW3.out
                have HTX3 : Hid (Tab W3.drew W3.drew.heap.size A' n c' F) := HTW3.out
                go_wp2_with fail
                go_region_held3 (fun w' => w'.cell? ⟨R.heap.size, 0, none⟩ = some (.int .i64 s) ∧ w'.cell? ⟨R.heap.size, 1, none⟩ = some (.slice A nw c) ∧ w'.cell? ⟨R.heap.size, 2, none⟩ = some (.slice A' n c') ∧ w'.cell? ⟨b, 0, none⟩ = some (.int .i64 x) ∧ w'.cell? ⟨b, 1, none⟩ = some (.int .i64 y) ∧ w'.cell? ⟨b, 2, none⟩ = some (.int .i64 z))
                  (first | exact ⟨x0, x1, x2, y0, y1, y2⟩ | exact ⟨u0, u1, u2, u3, u4, u5⟩)
                  (first | (go_at_call 24; refine (refIndex5_any s A A' nw c n c' wd F z x _ (HAX3.out) (HTX3.out) hx.1 hx.2).mono ?_; rintro e W4 ⟨rfl, hb⟩; rw [← HV2.out, ← HE2.out]; obtain ⟨u0, u1, u2, u3, u4, u5, _, _⟩ := I3d.out.next hb))
                have I4 := Lib.hid (I3d.out.next hb)
                have HAW4 := Lib.hid (HAX3.out.next hb)
                have HTW4 := Lib.hid (HTX3.out.next hb)
                have K4 := Lib.hid (below_next K3.out.drew (Nat.le_refl _) hb)
                clear x0 x1 x2 y0 y1 y2 zx zt u0 u1 u2 u3 u4 u5 hb I3 I3d K3 HAW3 HTW3 HAX3 HTX3
                go_wp2_with fail
                exact ⟨⟨l + 1, by omega, by go_num, K4.out⟩, by simp [intOf]; omega⟩
              · obtain rfl : l = 2 := by omega
                have K0 := Lib.hid (below_next HBP.out (Nat.le_refl _) hb)
                clear hb
                go_wp2_with fail
                exact ⟨⟨j + 1, by omega, by go_num, K0.out⟩, by simp [intOf]; omega⟩
        · obtain rfl : j = 3 := by omega
          have HB8 := Lib.hid (below_next HBC.out (Nat.le_refl _) hb)
          clear hb
          go_wp2_with (go_at_call 8; refine (awake5_any _).mono ?_; rintro e w9 ⟨rfl, hb9⟩)
          go_ret
          exact ⟨rfl, below_next HB8.out (Nat.le_refl _) hb9⟩
end Go.Proofs.Ytpbcpobbjoopnaa
