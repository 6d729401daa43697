/-
  The walk of PoolTakes.
-/
import Derived.Test.YtpjhgdgdckndeaaDoorTakes0
import Derived.Deep.RegionHeld3
import Derived.Deep.DeepCutAuto
import Derived.Deep.CutBlock
namespace Go.Proofs.YtpjhgdgdckndeaaDoor
open Go.RowKit
set_option maxRecDepth 100000
set_option linter.unusedVariables false

/-- The box at b holds this space. -/
def SpIn (R : World) (b : Nat) (s : Int) (nw n : Nat) (wd : Nat → Int) (F : Nat → Fr) (W : World) : Prop := ∃ (A : Option Addr) (c : Nat) (A' : Option Addr) (c' : Nat), Blk W b 26 #[.int .i64 s, .slice A nw c, .slice A' n c'] ∧
  Arr W W.heap.size A nw c wd ∧ Tab W W.heap.size A' n c' F ∧ (∀ B, B ≤ b → B ≤ R.heap.size → Below B R W) ∧ ∀ b', b' < R.heap.size → b' ≠ b → W.heap[b']? = R.heap[b']?
theorem spin_put {R U wn : World} {s : Int} {nw n c c' b : Nat} {wd : Nat → Int} {F : Nat → Fr} {A A' : Option Addr} {a0 a1 a2 : Value} (hU : Below R.heap.size R U) (hb : Below U.heap.size U wn) (bb : Blk wn b 26 #[a0, a1, a2]) (hbU : b < R.heap.size) (ho : Own wn U.heap.size A nw c wd) (ht : OwnT wn U.heap.size A' n c' F) :
    SpIn R b s nw n wd F (((wn.setCell ⟨b, 0, none⟩ (.int .i64 s)).setCell ⟨b, 1, none⟩ (.slice A nw c)).setCell ⟨b, 2, none⟩ (.slice A' n c')) := by
  have h2 := hU.size
  have h3 := below_next hU (Nat.le_refl _) hb
  exact ⟨A, c, A', c', bb.set3 _ _ _, (ho.put3 (by omega) _ _ _).arr, (ht.put3 (by omega) _ _ _).tab, fun B hB hR => below_put3 (h3.mono hR) hB _ _ _, fun b' hlt hne => ((Below.heap_setCell _ ⟨b, 2, none⟩ _ b' hne).trans ((Below.heap_setCell _ ⟨b, 1, none⟩ _ b' hne).trans (Below.heap_setCell wn ⟨b, 0, none⟩ _ b' hne))).trans (h3.block b' hlt)⟩

theorem cell_heap {R W : World} {b o : Nat} (h : W.heap[b]? = R.heap[b]?) : W.cell? ⟨b, o, none⟩ = R.cell? ⟨b, o, none⟩ := by simp [World.cell?, h]
/-- Rows stay where a box of a space alone has turned. -/
theorem Arr.box_turn {R W : World} {b n c : Nat} {A : Option Addr} {f : Nat → Int} {a0 : Int} {v1 v2 : Option Addr} {n1 c1 n2 c2 : Nat} (h : Arr R R.heap.size A n c f) (hB : Blk R b 26 #[.int .i64 a0, .slice v1 n1 c1, .slice v2 n2 c2])
    (hk : ∀ b', b' < R.heap.size → b' ≠ b → W.heap[b']? = R.heap[b']?) (hs : R.heap.size ≤ W.heap.size) : Arr W W.heap.size A n c f := by
  refine ⟨h.1, h.2.1, h.2.2.1, fun hn => ?_⟩
  obtain ⟨x, o, hA, hx, hc⟩ := h.2.2.2 hn
  have hne : x ≠ b := by
    intro e
    subst e
    have h0 := hc 0 hn
    rw [hB.cell] at h0
    rcases (show o + 0 = 0 ∨ o + 0 = 1 ∨ o + 0 = 2 ∨ 3 ≤ o + 0 by omega) with e | e | e | e
    · rw [e] at h0; simp at h0
    · rw [e] at h0; simp at h0
    · rw [e] at h0; simp at h0
    · rw [Array.getElem?_eq_none (by simpa using e)] at h0; cases h0
  exact ⟨x, o, hA, by omega, fun j hj => (cell_heap (hk x hx hne)).trans (hc j hj)⟩
theorem Tab.box_turn {R W : World} {b n c : Nat} {A : Option Addr} {F : Nat → Fr} {a0 : Int} {v1 v2 : Option Addr} {n1 c1 n2 c2 : Nat} (h : Tab R R.heap.size A n c F) (hB : Blk R b 26 #[.int .i64 a0, .slice v1 n1 c1, .slice v2 n2 c2])
    (hk : ∀ b', b' < R.heap.size → b' ≠ b → W.heap[b']? = R.heap[b']?) (hs : R.heap.size ≤ W.heap.size) : Tab W W.heap.size A n c F := by
  refine ⟨h.1, h.2.1, h.2.2.1, fun hn => ?_⟩
  obtain ⟨x, o, hA, hx, hc⟩ := h.2.2.2 hn
  have hne : x ≠ b := by
    intro e
    subst e
    obtain ⟨h0, h1, _⟩ := hc 0 hn
    rw [hB.cell] at h0 h1
    rcases (show o + 0 * 3 = 0 ∨ o + 0 * 3 = 1 ∨ o + 0 * 3 = 2 ∨ 3 ≤ o + 0 * 3 by omega) with e | e | e | e
    · rw [e] at h1; simp at h1
    · rw [e] at h0; simp at h0
    · rw [e] at h0; simp at h0
    · rw [Array.getElem?_eq_none (by simpa using e)] at h0; cases h0
  exact ⟨x, o, hA, by omega, fun j hj => ⟨(cell_heap (hk x hx hne)).trans (hc j hj).1, (cell_heap (hk x hx hne)).trans (hc j hj).2.1, (cell_heap (hk x hx hne)).trans (hc j hj).2.2⟩⟩

set_option maxHeartbeats 16000000 in
theorem walkTakes (s : Int) (A A' : Option Addr) (nw c n c' : Nat) (wd0 : Nat → Int) (F0' : Nat → Fr) (Al : Option Addr) (nl cl : Nat) (ow bt what at_ by_ : Int) (w : World) (hA : Arr w w.heap.size A nw c wd0) (hT : Tab w w.heap.size A' n c' F0') (hL : ListP w w.heap.size Al nl cl) (hD : Db w)
    (a0 : -9223372036854775808 ≤ ow) (a1 : ow ≤ 9223372036854775807) (b0 : -9223372036854775808 ≤ bt) (b1 : bt ≤ 9223372036854775807) (c0 : -9223372036854775808 ≤ what) (c1 : what ≤ 9223372036854775807) (d0 : -9223372036854775808 ≤ at_) (d1 : at_ ≤ 9223372036854775807) (e0 : -9223372036854775808 ≤ by_) (e1 : by_ ≤ 9223372036854775807) :
    Calls Tryd.prog 4 #[.agg #[.int .i64 s, .slice A nw c, .slice A' n c'], .slice Al nl cl, .int .i64 ow, .int .i64 bt, .int .i64 what, .int .i64 at_, .int .i64 by_] w fun e w' => e = .returned (.bool true) ∧ Below w.heap.size w w' := by
  obtain ⟨U, hU⟩ : ∃ U, U = w.alloc (.cells #[.int .i64 s, .slice A nw c, .slice A' n c'] 26) := ⟨_, rfl⟩
  have BX := Lib.hid (show Blk U w.heap.size 26 #[.int .i64 s, .slice A nw c, .slice A' n c'] by rw [hU]; exact Blk.new _ _ _)
  have hbu : Below w.heap.size w U := by rw [hU]; exact (Below.refl _ _).alloc (Nat.le_refl _) _
  have HBU := Lib.hid hbu
  have HU := Lib.hid hU
  have HL := Lib.hid (hL.next hbu)
  have HA0 := Lib.hid hA
  have HT0 := Lib.hid hT
  have HD := Lib.hid hD
  clear hL hU hbu hA hT hD
  go_enter Tryd.func4, Tryd.ntmps4
  go_wp2_with fail
  rw [← HU.out]
  refine (small_any s A A' nw c n c' U).mono ?_
  rintro e U1 ⟨rfl, hb⟩
  have BX1 := Lib.hid (BX.out.next hb)
  have HBU1 := Lib.hid (below_next HBU.out (Nat.le_refl _) hb)
  have HL1 := Lib.hid (HL.out.next hb)
  clear hb BX HBU HL HU
  obtain ⟨sm, hsm, hn⟩ : ∃ b, (decide (nw ≤ 3000) && decide (n ≤ 80)) = b ∧ (b = true → n ≤ 80) := ⟨_, rfl, by simp⟩
  rw [hsm]
  clear hsm
  rcases sm with _ | _
  · go_wp2_with (go_at_call 14; refine (awake4_any _ (HD.out.next HBU1.out)).mono ?_; rintro e w6 ⟨rfl, b6⟩; have HB6 := Lib.hid b6; clear b6)
    go_ret
    exact ⟨rfl, below_next HBU1.out (Nat.le_refl _) HB6.out⟩
  · clear hn
    go_wp2_with fail
    refine (deck_any Al nl cl U1 HL1.out).mono ?_
    rintro e U2 ⟨rfl, hd, hb, hz⟩
    have HDK := Lib.hid hd
    have BX2 := Lib.hid (BX1.out.next hb)
    have HBU2 := Lib.hid (below_next HBU1.out (Nat.le_refl _) hb)
    have zz := BX1.out.lt
    clear hd hb BX1 HBU1 HL1
    go_wp2_with fail
    refine (space_any U1.heap.size U2 HDK.out).mono ?_
    rintro e U3 ⟨k, m, B, d, gb, d', wd, F, L, rfl, k0, k1, m0, m1, hoA, hoT, _, _, hG⟩
    have BX3 := Lib.hid (BX2.out.turn hG (by omega))
    have HBU3 := Lib.hid (below_turn HBU2.out hG (by omega))
    have HA3 := Lib.hid hoA.arr
    have HT3 := Lib.hid hoT.tab
    have hmk0 : 0 < m * 2 ^ k := Nat.mul_pos (by omega) (Nat.two_pow_pos k)
    have hmk1 : m * 2 ^ k ≤ 16384 := prod_le (by omega) (by omega)
    obtain ⟨mk, hmk⟩ : ∃ mk, mk = m * 2 ^ k := ⟨_, rfl⟩
    rw [← hmk] at HA3 hmk0 hmk1 ⊢
    clear hG BX2 HBU2 HDK hz hoA hoT hmk
    go_wp2_with fail
    obtain ⟨V, hV⟩ : ∃ V, V = U3.alloc (.cells #[.int .i64 k, .slice B mk d, .slice (some ⟨gb, 0, none⟩) m d'] 26) := ⟨_, rfl⟩
    have hbv : Below U3.heap.size U3 V := by rw [hV]; exact (Below.refl _ _).alloc (Nat.le_refl _) _
    have BY := Lib.hid (show Blk V U3.heap.size 26 #[.int .i64 k, .slice B mk d, .slice (some ⟨gb, 0, none⟩) m d'] by rw [hV]; exact Blk.new _ _ _)
    have BX4 := Lib.hid (BX3.out.next hbv)
    have HBV := Lib.hid (below_next HBU3.out (Nat.le_refl _) hbv)
    have HR4 := Lib.hid (show YV V.drew s A nw c A' n c' from ⟨wd0, F0', (HA0.out.below HBV.out).more HBV.out.size, (HT0.out.below HBV.out).more HBV.out.size⟩)
    have HSA := Lib.hid (show Arr V.drew V.drew.heap.size B mk d wd from (show Arr V V.heap.size B mk d wd from HA3.out.next hbv))
    have HST := Lib.hid (show Tab V.drew V.drew.heap.size (some ⟨gb, 0, none⟩) m d' F from (show Tab V V.heap.size (some ⟨gb, 0, none⟩) m d' F from HT3.out.next hbv))
    rw [← hV]
    clear hV hbv BX3 HBU3 HA3 HT3 HA0 HT0
    have p0 := BX4.out.cell 0
    have p1 := BX4.out.cell 1
    have p2 := BX4.out.cell 2
    have q0 := BY.out.cell 0
    have q1 := BY.out.cell 1
    have q2 := BY.out.cell 2
    simp at p0 p1 p2 q0 q1 q2
    have hc : Below V.drew.heap.size V.drew V.drew := Below.refl _ _
    have zx : w.heap.size < V.drew.heap.size := BX4.out.lt
    have zy : U3.heap.size < V.drew.heap.size := BY.out.lt
    go_upto_region 4 with fail
    go_cut [44, 45, 46] (fun q l i wx => l = .int .i64 3 ∧ i = .int .i64 0 ∧ ∃ Q, q = .slice (some ⟨Q, 0, none⟩) 3 3 ∧ (∀ j, j < 3 → YAt wx Q j) ∧ Q < wx.heap.size ∧ Below w.heap.size w wx)
    case first =>
      go_region_held3 (fun w' => w'.cell? ⟨w.heap.size, 0, none⟩ = some (.int .i64 s) ∧ w'.cell? ⟨w.heap.size, 1, none⟩ = some (.slice A nw c) ∧ w'.cell? ⟨w.heap.size, 2, none⟩ = some (.slice A' n c') ∧ w'.cell? ⟨U3.heap.size, 0, none⟩ = some (.int .i64 k) ∧ w'.cell? ⟨U3.heap.size, 1, none⟩ = some (.slice B mk d) ∧ w'.cell? ⟨U3.heap.size, 2, none⟩ = some (.slice (some ⟨gb, 0, none⟩) m d'))
        (first | exact ⟨p0, p1, p2, q0, q1, q2⟩ | exact ⟨(hc.cell (p := ⟨_, 0, none⟩) zx).trans p0, (hc.cell (p := ⟨_, 1, none⟩) zx).trans p1, (hc.cell (p := ⟨_, 2, none⟩) zx).trans p2, (hc.cell (p := ⟨_, 0, none⟩) zy).trans q0, (hc.cell (p := ⟨_, 1, none⟩) zy).trans q1, (hc.cell (p := ⟨_, 2, none⟩) zy).trans q2⟩ | go_keep)
        (first
          | (go_at_call 16; refine (spoilt_any k B (some ⟨gb, 0, none⟩) mk d m d' wd F what at_ by_ _ (HSA.out.next hc) (HST.out.next hc) (by omega) (by omega) (by omega) hmk0 c0 c1 d0 d1 e0 e1).mono ?_; rintro e wq ⟨k1, nw1, c1, g1, c1', A1, wd1, F1, rfl, lo, hi, ho, ht, hb⟩; have hc := below_next hc (Nat.le_refl _) hb; have r1 := ho.arr; have r1t := ht.tab))
      obtain ⟨W, hW⟩ : ∃ W, W = wq.alloc (.cells #[.int .i64 k, .slice B mk d, .slice (some ⟨gb, 0, none⟩) m d', .int .i64 s, .slice A nw c, .slice A' n c', .int .i64 k1, .slice A1 nw1 c1, .slice (some ⟨g1, 0, none⟩) m c1'] 26) := ⟨_, rfl⟩
      have hbw : Below wq.heap.size wq W := by rw [hW]; exact (Below.refl _ _).alloc (Nat.le_refl _) _
      have hq : Blk W wq.heap.size 26 #[.int .i64 k, .slice B mk d, .slice (some ⟨gb, 0, none⟩) m d', .int .i64 s, .slice A nw c, .slice A' n c', .int .i64 k1, .slice A1 nw1 c1, .slice (some ⟨g1, 0, none⟩) m c1'] := by rw [hW]; exact Blk.new _ _ _
      have v0 : YV V.drew s A nw c A' n c' := HR4.out
      have v1 : YV V.drew k B mk d (some ⟨gb, 0, none⟩) m d' := ⟨_, _, HSA.out, HST.out⟩
      have v2 : YV wq k1 A1 nw1 c1 (some ⟨g1, 0, none⟩) m c1' := ⟨_, _, r1, r1t⟩
      have HBW : Hid (Below w.heap.size w W) := below_next (below_next HBV.out.drew (Nat.le_refl _) hc) (Nat.le_refl _) hbw
      have HYA : Hid (∀ j, j < 3 → YAt W wq.heap.size j) := by
        intro j hj
        rcases (by omega : j = 0 ∨ j = 1 ∨ j = 2) with e | e | e <;> subst e
        · exact ⟨_, _, _, _, _, _, _, hq.cell 0, hq.cell 1, hq.cell 2, (v1.next hc).next hbw⟩
        · exact ⟨_, _, _, _, _, _, _, hq.cell 3, hq.cell 4, hq.cell 5, (v0.next hc).next hbw⟩
        · exact ⟨_, _, _, _, _, _, _, hq.cell 6, hq.cell 7, hq.cell 8, v2.next hbw⟩
      have HQ := Lib.hid hq.lt
      rw [← hW]
      clear hW hbw hq v0 v1 v2 r1 r1t hc
      go_wp2
      go_meet
      exact ⟨rfl, rfl, _, rfl, HYA.out, HQ.out, HBW.out⟩
    case rest =>
      obtain ⟨rfl, rfl, Q, rfl, hYA, hQ, hB⟩ := hcut
      obtain ⟨C0, rfl⟩ : ∃ C0, C0 = wc := ⟨_, rfl⟩
      have HYA := Lib.hid hYA
      have HBC := Lib.hid hB
      have HDC := Lib.hid (HD.out.next hB)
      clear hYA hB HR4 HSA HST BX4 BY hc p0 p1 p2 q0 q1 q2 zx zy HBV HD
      go_wp2_with fail
      go_loopw [46] (fun i wr => ∃ j : Nat, j ≤ 3 ∧ i = .int .i64 j ∧ Below C0.heap.size C0 wr) (fun i _ => 3 - (intOf i).toNat)
      case atStart => exact ⟨0, Nat.zero_le _, rfl, Below.refl _ _⟩
      case round =>
        obtain ⟨R, rfl⟩ : ∃ R, R = wr := ⟨_, rfl⟩
        obtain ⟨j, hj, rfl, hb⟩ := hrel
        by_cases hlt : j < 3
        · obtain ⟨s, A, nw, c, A', n, c', x0, x1, x2, hv⟩ := HYA.out j hlt
          have zr : C0.heap.size ≤ R.heap.size := hb.size
          have x0' := (hb.cell (p := ⟨Q, j * 3, none⟩) hQ).trans x0
          have x1' := (hb.cell (p := ⟨Q, j * 3 + 1, none⟩) hQ).trans x1
          have x2' := (hb.cell (p := ⟨Q, j * 3 + 2, none⟩) hQ).trans x2
          obtain ⟨wd, F, hva, hvt⟩ := hv.next hb
          have hj2 : 0 ≤ (j : Int) ∧ (j : Int) < 3 := by omega
          obtain ⟨P0, hP0⟩ : ∃ P, P = R.alloc (.cells #[.int .i64 s, .slice A nw c, .slice A' n c'] 26) := ⟨_, rfl⟩
          have bx0 : Blk P0 R.heap.size 26 #[.int .i64 s, .slice A nw c, .slice A' n c'] := by rw [hP0]; exact Blk.new _ _ _
          have hbp0 : Below R.heap.size R P0 := by rw [hP0]; exact (Below.refl _ _).alloc (Nat.le_refl _) _
          have hs0 : P0.heap.size = R.heap.size + 1 := by rw [hP0]; simp
          have HP0 := Lib.hid hP0
          clear hP0
          obtain ⟨z0, hz0, z00, z01⟩ : ∃ z, ow % 16 = z ∧ 0 ≤ z ∧ z < 16 := ⟨_, rfl, by omega, by omega⟩
          obtain ⟨z1, hz1, z10, z11⟩ : ∃ z, bt % 3 = z ∧ 0 ≤ z ∧ z < 3 := ⟨_, rfl, by omega, by omega⟩
          obtain ⟨z2, hz2, z20, z21⟩ : ∃ z, ow % 2 = z ∧ 0 ≤ z ∧ z < 2 := ⟨_, rfl, by omega, by omega⟩
          obtain ⟨z3, hz3, z30, z31⟩ : ∃ z, bt % 6 = z ∧ 0 ≤ z ∧ z < 6 := ⟨_, rfl, by omega, by omega⟩
          have HZ0 := Lib.hid hz0
          have HZ1 := Lib.hid hz1
          have HZ2 := Lib.hid hz2
          have HZ3 := Lib.hid hz3
          have s1 : IntKind.i64.wrap (4294967295 + z2) = 4294967295 + z2 := IntWalk.i64_in _ (by omega)
          have s2 : IntKind.i64.wrap (z3 - 1) = z3 - 1 := IntWalk.i64_in _ (by omega)
          clear hz0 hz1 hz2 hz3
          go_upto_region 7 with fail
          rw [← HP0.out]
          clear x0' x1' x2' x0 x1 x2 hv
          go_wp2_with (go_at_call 17; refine (mod_any _ _ (by omega) (by omega) (by omega) (by omega) _).mono ?_; rintro e w' ⟨rfl, rfl⟩; first | rw [HZ0.out] | rw [HZ1.out] | rw [HZ2.out] | rw [HZ3.out])
          obtain ⟨P, hP⟩ : ∃ P, P = (((P0.alloc (.cells #[.int .i64 ow, .int .i64 bt] 3)).alloc (.cells #[.int .i64 z0, .int .i64 z1] 3)).alloc (.cells #[.int .i64 (4294967295 + z2), .int .i64 (z3 - 1)] 3)).alloc (.cells #[.slice (some ⟨R.heap.size + 1, 0, none⟩) 2 2, .slice (some ⟨R.heap.size + 1 + 1, 0, none⟩) 2 2, .slice (some ⟨R.heap.size + 1 + 1 + 1, 0, none⟩) 2 2] 22) := ⟨_, rfl⟩
          have hz4 : R.heap.size + 4 < P.heap.size := by subst hP; simp; omega
          have pb0 : Blk P (R.heap.size + 1) 3 #[.int .i64 ow, .int .i64 bt] := by rw [hP]; exact (((Blk.newAt _ _ _ _ hs0).alloc _).alloc _).alloc _
          have pb1 : Blk P (R.heap.size + 1 + 1) 3 #[.int .i64 z0, .int .i64 z1] := by rw [hP]; exact ((Blk.newAt _ _ _ _ (by simp; omega)).alloc _).alloc _
          have pb2 : Blk P (R.heap.size + 1 + 1 + 1) 3 #[.int .i64 (4294967295 + z2), .int .i64 (z3 - 1)] := by rw [hP]; exact (Blk.newAt _ _ _ _ (by simp; omega)).alloc _
          have pb3 : Blk P (R.heap.size + 1 + 1 + 1 + 1) 22 #[.slice (some ⟨R.heap.size + 1, 0, none⟩) 2 2, .slice (some ⟨R.heap.size + 1 + 1, 0, none⟩) 2 2, .slice (some ⟨R.heap.size + 1 + 1 + 1, 0, none⟩) 2 2] := by rw [hP]; exact Blk.newAt _ _ _ _ (by simp; omega)
          have HT2 : Hid (∀ l, l < 3 → TwoAt P (R.heap.size + 1 + 1 + 1 + 1) l) := by
            intro l hl
            rcases (by omega : l = 0 ∨ l = 1 ∨ l = 2) with e | e | e <;> subst e
            · exact ⟨_, _, _, pb0.lt, pb3.cell 0, pb0.cell 0, pb0.cell 1⟩
            · exact ⟨_, _, _, pb1.lt, pb3.cell 1, pb1.cell 0, pb1.cell 1⟩
            · exact ⟨_, _, _, pb2.lt, pb3.cell 2, pb2.cell 0, pb2.cell 1⟩
          have hbp : Below P0.heap.size P0 P := by rw [hP]; exact ((((Below.refl _ _).alloc (Nat.le_refl _) _).alloc (by simp) _).alloc (by simp; omega) _).alloc (by simp; omega) _
          have HBP := Lib.hid (below_next (below_next hb (Nat.le_refl _) hbp0) (Nat.le_refl _) hbp)
          have BXP := Lib.hid (bx0.next hbp)
          have HVA := Lib.hid ((hva.next hbp0).next hbp)
          have HVT := Lib.hid ((hvt.next hbp0).next hbp)
          have HDP := Lib.hid (HDC.out.next HBP.out)
          rw [← hP]
          clear hP pb0 pb1 pb2 pb3 HZ0 HZ1 HZ2 HZ3 z00 z01 z10 z11 z20 z21 z30 z31 s1 s2 hbp hbp0 bx0 hva hvt hb hs0
          go_loopw [67] (fun i wr2 => ∃ l : Nat, l ≤ 3 ∧ i = .int .i64 l ∧ Below P.heap.size P wr2) (fun i _ => 3 - (intOf i).toNat)
          case atStart => exact ⟨0, Nat.zero_le _, rfl, Below.refl _ _⟩
          case round =>
            obtain ⟨W0, rfl⟩ : ∃ W0, W0 = wr := ⟨_, rfl⟩
            obtain ⟨l, hl, rfl, hb⟩ := hrel
            by_cases hll : l < 3
            · obtain ⟨b, x, y, zb, t0, t1, t2⟩ := HT2.out l hll
              have zr2 : P.heap.size ≤ W0.heap.size := hb.size
              have zbW : b < W0.heap.size := by omega
              have t0' := (hb.cell (p := ⟨R.heap.size + 1 + 1 + 1 + 1, l, none⟩) (show R.heap.size + 1 + 1 + 1 + 1 < P.heap.size by omega)).trans t0
              have BX0 := Lib.hid (BXP.out.next hb)
              have HV0 := Lib.hid (HVA.out.next hb)
              have HW0 := Lib.hid (HVT.out.next hb)
              have HD0 := Lib.hid (HDP.out.next hb)
              have y3 := (hb.cell (p := ⟨b, 0, none⟩) zb).trans t1
              have y4 := (hb.cell (p := ⟨b, 1, none⟩) zb).trans t2
              have y0 := BX0.out.cell 0
              have y1 := BX0.out.cell 1
              have y2 := BX0.out.cell 2
              have zbx : R.heap.size < W0.heap.size := BX0.out.lt
              simp at y0 y1 y2
              have K0 := Lib.hid hb
              clear hb t0 t1 t2
              have hl2 : 0 ≤ (l : Int) ∧ (l : Int) < 3 := by omega
              obtain ⟨s', nw', n', wd', F', f1, x1, hnw', hn', hN⟩ := take_val s nw wd n F x y
              have N := Lib.hid (show ∀ W, Below W0.heap.size W0 W → Calls Tryd.prog 18 #[.agg #[.int .i64 s, .slice A nw c, .slice A' n c'], .int .i64 x, .int .i64 y] W (GivesSp s' nw' n' wd' F' f1 x1 W) from
                fun W hW => (take_any s A A' nw c n c' wd F x y W (HV0.out.next hW) (HW0.out.next hW) (HD0.out.next hW)).mono (fun e w' h => hN W e w' h))
              have HN := Lib.hid hN
              clear hN
              go_upto_region 10 with fail
              clear t0'
              go_cut [21, 22, 23] (fun v f e wx => f = .int .i64 f1 ∧ e = .int .i64 x1 ∧ SpBox W0 s' nw' n' wd' F' v wx)
              case first =>
                have y0d : W0.drew.cell? ⟨R.heap.size, 0, none⟩ = some (.int .i64 s) := y0
                have y0a : (W0.alloc (.cells #[.int .i64 0, .slice none 0 0, .slice none 0 0] 26)).drew.cell? ⟨R.heap.size, 0, none⟩ = some (.int .i64 s) := (((Below.refl _ W0).alloc (Nat.le_refl _) (.cells #[.int .i64 0, .slice none 0 0, .slice none 0 0] 26)).cell (p := ⟨R.heap.size, 0, none⟩) zbx).trans y0
                have y1d : W0.drew.cell? ⟨R.heap.size, 1, none⟩ = some (.slice A nw c) := y1
                have y1a : (W0.alloc (.cells #[.int .i64 0, .slice none 0 0, .slice none 0 0] 26)).drew.cell? ⟨R.heap.size, 1, none⟩ = some (.slice A nw c) := (((Below.refl _ W0).alloc (Nat.le_refl _) (.cells #[.int .i64 0, .slice none 0 0, .slice none 0 0] 26)).cell (p := ⟨R.heap.size, 1, none⟩) zbx).trans y1
                have y2d : W0.drew.cell? ⟨R.heap.size, 2, none⟩ = some (.slice A' n c') := y2
                have y2a : (W0.alloc (.cells #[.int .i64 0, .slice none 0 0, .slice none 0 0] 26)).drew.cell? ⟨R.heap.size, 2, none⟩ = some (.slice A' n c') := (((Below.refl _ W0).alloc (Nat.le_refl _) (.cells #[.int .i64 0, .slice none 0 0, .slice none 0 0] 26)).cell (p := ⟨R.heap.size, 2, none⟩) zbx).trans y2
                have y3d : W0.drew.cell? ⟨b, 0, none⟩ = some (.int .i64 x) := y3
                have y3a : (W0.alloc (.cells #[.int .i64 0, .slice none 0 0, .slice none 0 0] 26)).drew.cell? ⟨b, 0, none⟩ = some (.int .i64 x) := (((Below.refl _ W0).alloc (Nat.le_refl _) (.cells #[.int .i64 0, .slice none 0 0, .slice none 0 0] 26)).cell (p := ⟨b, 0, none⟩) zbW).trans y3
                have y4d : W0.drew.cell? ⟨b, 1, none⟩ = some (.int .i64 y) := y4
                have y4a : (W0.alloc (.cells #[.int .i64 0, .slice none 0 0, .slice none 0 0] 26)).drew.cell? ⟨b, 1, none⟩ = some (.int .i64 y) := (((Below.refl _ W0).alloc (Nat.le_refl _) (.cells #[.int .i64 0, .slice none 0 0, .slice none 0 0] 26)).cell (p := ⟨b, 1, none⟩) zbW).trans y4
                have HBBH := Lib.hid (show Blk (W0.alloc (.cells #[.int .i64 0, .slice none 0 0, .slice none 0 0] 26)).drew W0.heap.size 26 #[.int .i64 0, .slice none 0 0, .slice none 0 0] from Blk.new _ _ _)
                have HUAH := Lib.hid (show Below W0.heap.size W0 (W0.alloc (.cells #[.int .i64 0, .slice none 0 0, .slice none 0 0] 26)).drew from ((Below.refl _ _).alloc (Nat.le_refl _) _).drew)
                have HUDH := Lib.hid (show Below W0.heap.size W0 W0.drew from (Below.refl _ _).drew)
                go_region_held3 (fun w' => w'.cell? ⟨R.heap.size, 0, none⟩ = some (.int .i64 s) ∧ w'.cell? ⟨R.heap.size, 1, none⟩ = some (.slice A nw c) ∧ w'.cell? ⟨R.heap.size, 2, none⟩ = some (.slice A' n c') ∧ w'.cell? ⟨b, 0, none⟩ = some (.int .i64 x) ∧ w'.cell? ⟨b, 1, none⟩ = some (.int .i64 y))
                  (first | (with_reducible exact ⟨y0d, y1d, y2d, y3d, y4d⟩) | (with_reducible exact ⟨u0, u1, u2, u3, u4⟩) | (with_reducible exact ⟨y0a, y1a, y2a, y3a, y4a⟩) | (with_reducible exact ⟨(cell_far3 (Nat.ne_of_lt zbx) _ _ _).trans u0, (cell_far3 (Nat.ne_of_lt zbx) _ _ _).trans u1, (cell_far3 (Nat.ne_of_lt zbx) _ _ _).trans u2, (cell_far3 (Nat.ne_of_lt zbW) _ _ _).trans u3, (cell_far3 (Nat.ne_of_lt zbW) _ _ _).trans u4⟩) | go_keep)
                  (first
                    | (go_at_call 18; refine (N.out _ (by first | (with_reducible exact HUDH.out) | (with_reducible exact HUAH.out))).mono ?_; rintro e wn ⟨RA, rc, RA', rc', rfl, ho, ht, hb⟩; have u0 : wn.cell? ⟨R.heap.size, 0, none⟩ = some (.int .i64 s) := (hb.cell (p := ⟨R.heap.size, 0, none⟩) (by simp; omega)).trans (by first | (with_reducible exact y0d) | (with_reducible exact y0a)); have u1 : wn.cell? ⟨R.heap.size, 1, none⟩ = some (.slice A nw c) := (hb.cell (p := ⟨R.heap.size, 1, none⟩) (by simp; omega)).trans (by first | (with_reducible exact y1d) | (with_reducible exact y1a)); have u2 : wn.cell? ⟨R.heap.size, 2, none⟩ = some (.slice A' n c') := (hb.cell (p := ⟨R.heap.size, 2, none⟩) (by simp; omega)).trans (by first | (with_reducible exact y2d) | (with_reducible exact y2a)); have u3 : wn.cell? ⟨b, 0, none⟩ = some (.int .i64 x) := (hb.cell (p := ⟨b, 0, none⟩) (by simp; omega)).trans (by first | (with_reducible exact y3d) | (with_reducible exact y3a)); have u4 : wn.cell? ⟨b, 1, none⟩ = some (.int .i64 y) := (hb.cell (p := ⟨b, 1, none⟩) (by simp; omega)).trans (by first | (with_reducible exact y4d) | (with_reducible exact y4a)); (try have bb : Blk wn W0.heap.size 26 #[.int .i64 0, .slice none 0 0, .slice none 0 0] := (by with_reducible exact HBBH.out.next hb)); (try have bz := bb.lt); (try have t0 := bb.cell 0); (try have t1 := bb.cell 1); (try have t2 := bb.cell 2); (try have t3 := bb.frozen 0); (try have t4 := bb.frozen 1); (try have t5 := bb.frozen 2); (try simp at t0 t1 t2)))
                all_goals
                  first
                  | (have HBX := Lib.hid (spbox_early (s := s') (Nat.le_refl _) HUAH.out hb bb (by simp) rfl ho ht); clear hb ho ht bb t0 t1 t2 t3 t4 t5; go_wp2; go_meet; exact ⟨rfl, rfl, HBX.out⟩)
                  | (have HBX := Lib.hid (spbox_late (s := s') HUDH.out hb ho ht); clear hb ho ht; go_wp2; go_meet; exact ⟨rfl, rfl, HBX.out⟩)
              case rest =>
                obtain ⟨W1, rfl⟩ : ∃ W1, W1 = wc := ⟨_, rfl⟩
                obtain ⟨rfl, rfl, t21, B1, k1, B1', k1', rfl, hx1, ha1, ht1, hb1, hz1⟩ := hcut
                have x3 := (hb1.cell (p := ⟨b, 0, none⟩) zbW).trans y3
                have x4 := (hb1.cell (p := ⟨b, 1, none⟩) zbW).trans y4
                have BXC := Lib.hid (BX0.out.next hb1)
                have HVC := Lib.hid (HV0.out.next hb1)
                have HWC := Lib.hid (HW0.out.next hb1)
                have HDC1 := Lib.hid (HD0.out.next hb1)
                have K1 := Lib.hid (below_next K0.out (Nat.le_refl _) hb1)
                have zu1 := hb1.size
                have HX1 := Lib.hid hx1
                have HAX := Lib.hid ha1
                have HTX := Lib.hid ht1
                clear y0 y1 y2 y3 y4 hx1 ha1 ht1 hb1 K0 HV0 HW0 HD0 BX0 N
                have y3 := x3
                have y4 := x4
                have y0 := BXC.out.cell 0
                have y1 := BXC.out.cell 1
                have y2 := BXC.out.cell 2
                have zbx1 : R.heap.size < W1.heap.size := BXC.out.lt
                have zbW1 : b < W1.heap.size := by omega
                simp at y0 y1 y2
                clear x3 x4
                have N := Lib.hid (show ∀ W, Below W1.heap.size W1 W → Calls Tryd.prog 19 #[.agg #[.int .i64 s, .slice A nw c, .slice A' n c'], .int .i64 x, .int .i64 y] W (GivesSp s' nw' n' wd' F' f1 x1 W) from
                  fun W hW => (refTake_any s A A' nw c n c' wd F x y W (HVC.out.next hW) (HWC.out.next hW)).mono (fun e w' h => HN.out W e w' h))
                clear HN
                go_upto_region 11 with fail
                go_cut [24, 25, 26] (fun v f e wx => f = .int .i64 f1 ∧ e = .int .i64 x1 ∧ SpBox W1 s' nw' n' wd' F' v wx)
                case first =>
                  have y0d : W1.drew.cell? ⟨R.heap.size, 0, none⟩ = some (.int .i64 s) := y0
                  have y0a : (W1.alloc (.cells #[.int .i64 0, .slice none 0 0, .slice none 0 0] 26)).drew.cell? ⟨R.heap.size, 0, none⟩ = some (.int .i64 s) := (((Below.refl _ W1).alloc (Nat.le_refl _) (.cells #[.int .i64 0, .slice none 0 0, .slice none 0 0] 26)).cell (p := ⟨R.heap.size, 0, none⟩) zbx1).trans y0
                  have y1d : W1.drew.cell? ⟨R.heap.size, 1, none⟩ = some (.slice A nw c) := y1
                  have y1a : (W1.alloc (.cells #[.int .i64 0, .slice none 0 0, .slice none 0 0] 26)).drew.cell? ⟨R.heap.size, 1, none⟩ = some (.slice A nw c) := (((Below.refl _ W1).alloc (Nat.le_refl _) (.cells #[.int .i64 0, .slice none 0 0, .slice none 0 0] 26)).cell (p := ⟨R.heap.size, 1, none⟩) zbx1).trans y1
                  have y2d : W1.drew.cell? ⟨R.heap.size, 2, none⟩ = some (.slice A' n c') := y2
                  have y2a : (W1.alloc (.cells #[.int .i64 0, .slice none 0 0, .slice none 0 0] 26)).drew.cell? ⟨R.heap.size, 2, none⟩ = some (.slice A' n c') := (((Below.refl _ W1).alloc (Nat.le_refl _) (.cells #[.int .i64 0, .slice none 0 0, .slice none 0 0] 26)).cell (p := ⟨R.heap.size, 2, none⟩) zbx1).trans y2
                  have y3d : W1.drew.cell? ⟨b, 0, none⟩ = some (.int .i64 x) := y3
                  have y3a : (W1.alloc (.cells #[.int .i64 0, .slice none 0 0, .slice none 0 0] 26)).drew.cell? ⟨b, 0, none⟩ = some (.int .i64 x) := (((Below.refl _ W1).alloc (Nat.le_refl _) (.cells #[.int .i64 0, .slice none 0 0, .slice none 0 0] 26)).cell (p := ⟨b, 0, none⟩) zbW1).trans y3
                  have y4d : W1.drew.cell? ⟨b, 1, none⟩ = some (.int .i64 y) := y4
                  have y4a : (W1.alloc (.cells #[.int .i64 0, .slice none 0 0, .slice none 0 0] 26)).drew.cell? ⟨b, 1, none⟩ = some (.int .i64 y) := (((Below.refl _ W1).alloc (Nat.le_refl _) (.cells #[.int .i64 0, .slice none 0 0, .slice none 0 0] 26)).cell (p := ⟨b, 1, none⟩) zbW1).trans y4
                  have HBBH := Lib.hid (show Blk (W1.alloc (.cells #[.int .i64 0, .slice none 0 0, .slice none 0 0] 26)).drew W1.heap.size 26 #[.int .i64 0, .slice none 0 0, .slice none 0 0] from Blk.new _ _ _)
                  have HUAH := Lib.hid (show Below W1.heap.size W1 (W1.alloc (.cells #[.int .i64 0, .slice none 0 0, .slice none 0 0] 26)).drew from ((Below.refl _ _).alloc (Nat.le_refl _) _).drew)
                  have HUDH := Lib.hid (show Below W1.heap.size W1 W1.drew from (Below.refl _ _).drew)
                  go_region_held3 (fun w' => w'.cell? ⟨R.heap.size, 0, none⟩ = some (.int .i64 s) ∧ w'.cell? ⟨R.heap.size, 1, none⟩ = some (.slice A nw c) ∧ w'.cell? ⟨R.heap.size, 2, none⟩ = some (.slice A' n c') ∧ w'.cell? ⟨b, 0, none⟩ = some (.int .i64 x) ∧ w'.cell? ⟨b, 1, none⟩ = some (.int .i64 y))
                    (first | (with_reducible exact ⟨y0d, y1d, y2d, y3d, y4d⟩) | (with_reducible exact ⟨u0, u1, u2, u3, u4⟩) | (with_reducible exact ⟨y0a, y1a, y2a, y3a, y4a⟩) | (with_reducible exact ⟨(cell_far3 (Nat.ne_of_lt zbx1) _ _ _).trans u0, (cell_far3 (Nat.ne_of_lt zbx1) _ _ _).trans u1, (cell_far3 (Nat.ne_of_lt zbx1) _ _ _).trans u2, (cell_far3 (Nat.ne_of_lt zbW1) _ _ _).trans u3, (cell_far3 (Nat.ne_of_lt zbW1) _ _ _).trans u4⟩) | go_keep)
                    (first
                      | (go_at_call 19; refine (N.out _ (by first | (with_reducible exact HUDH.out) | (with_reducible exact HUAH.out))).mono ?_; rintro e wn ⟨RA, rc, RA', rc', rfl, ho, ht, hb⟩; have u0 : wn.cell? ⟨R.heap.size, 0, none⟩ = some (.int .i64 s) := (hb.cell (p := ⟨R.heap.size, 0, none⟩) (by simp; omega)).trans (by first | (with_reducible exact y0d) | (with_reducible exact y0a)); have u1 : wn.cell? ⟨R.heap.size, 1, none⟩ = some (.slice A nw c) := (hb.cell (p := ⟨R.heap.size, 1, none⟩) (by simp; omega)).trans (by first | (with_reducible exact y1d) | (with_reducible exact y1a)); have u2 : wn.cell? ⟨R.heap.size, 2, none⟩ = some (.slice A' n c') := (hb.cell (p := ⟨R.heap.size, 2, none⟩) (by simp; omega)).trans (by first | (with_reducible exact y2d) | (with_reducible exact y2a)); have u3 : wn.cell? ⟨b, 0, none⟩ = some (.int .i64 x) := (hb.cell (p := ⟨b, 0, none⟩) (by simp; omega)).trans (by first | (with_reducible exact y3d) | (with_reducible exact y3a)); have u4 : wn.cell? ⟨b, 1, none⟩ = some (.int .i64 y) := (hb.cell (p := ⟨b, 1, none⟩) (by simp; omega)).trans (by first | (with_reducible exact y4d) | (with_reducible exact y4a)); (try have bb : Blk wn W1.heap.size 26 #[.int .i64 0, .slice none 0 0, .slice none 0 0] := (by with_reducible exact HBBH.out.next hb)); (try have bz := bb.lt); (try have t0 := bb.cell 0); (try have t1 := bb.cell 1); (try have t2 := bb.cell 2); (try have t3 := bb.frozen 0); (try have t4 := bb.frozen 1); (try have t5 := bb.frozen 2); (try simp at t0 t1 t2)))
                  all_goals
                    first
                    | (have HBX := Lib.hid (spbox_early (s := s') (Nat.le_refl _) HUAH.out hb bb (by simp) rfl ho ht); clear hb ho ht bb t0 t1 t2 t3 t4 t5; go_wp2; go_meet; exact ⟨rfl, rfl, HBX.out⟩)
                    | (have HBX := Lib.hid (spbox_late (s := s') HUDH.out hb ho ht); clear hb ho ht; go_wp2; go_meet; exact ⟨rfl, rfl, HBX.out⟩)
                case rest =>
                  obtain ⟨W2, rfl⟩ : ∃ W2, W2 = wc := ⟨_, rfl⟩
                  obtain ⟨rfl, rfl, t24, B2, k2, B2', k2', rfl, hx2, ha2, ht2, hb2, hz2⟩ := hcut
                  have x3 := (hb2.cell (p := ⟨b, 0, none⟩) zbW1).trans y3
                  have BXE := Lib.hid (BXC.out.next hb2)
                  have HVE := Lib.hid (HVC.out.next hb2)
                  have HWE := Lib.hid (HWC.out.next hb2)
                  have HDE := Lib.hid (HDC1.out.next hb2)
                  have K2 := Lib.hid (below_next K1.out (Nat.le_refl _) hb2)
                  have zu2 := hb2.size
                  have HX1' := Lib.hid (HX1.out.next hb2)
                  have HAX' := Lib.hid (HAX.out.next hb2)
                  have HTX' := Lib.hid (HTX.out.next hb2)
                  have HX2 := Lib.hid hx2
                  have HAY := Lib.hid ha2
                  have HTY := Lib.hid ht2
                  have zt1 := HX1.out.lt
                  clear y0 y1 y2 y3 y4 hx2 ha2 ht2 hb2 K1 HVC HWC HDC1 BXC N HX1 HAX HTX
                  have r0 := HX1'.out.cell 0
                  have r1 := HX1'.out.cell 1
                  have r2 := HX1'.out.cell 2
                  have rz := HX1'.out.lt
                  have q0 := HX2.out.cell 0
                  have q1 := HX2.out.cell 1
                  have q2 := HX2.out.cell 2
                  have qz := HX2.out.lt
                  simp at r0 r1 r2 q0 q1 q2
                  go_upto_region 14 with (go_at_call 20; refine (sameSp_yes s' B1 B1' B2 B2' nw' k1 k2 n' k1' k2' wd' F' W2 HAX'.out HAY.out HTX'.out HTY.out hnw' hn').mono ?_; rintro e W3 ⟨rfl, hb3⟩)
                  obtain ⟨s2, nw2, n2, wd2, F2', f2, e2, hnw2, hn2, hN2⟩ := give_val s nw wd n F x
                  have N := Lib.hid (show ∀ W, Below W3.heap.size W3 W → Calls Tryd.prog 21 #[.agg #[.int .i64 s, .slice A nw c, .slice A' n c'], .int .i64 x] W (GivesSp s2 nw2 n2 wd2 F2' f2 e2 W) from
                    fun W hW => (give_any s A A' nw c n c' wd F x W ((HVE.out.next hb3).next hW) ((HWE.out.next hb3).next hW) ((HDE.out.next hb3).next hW)).mono (fun e w' h => hN2 W e w' h))
                  have HN2 := Lib.hid hN2
                  have y3 := (hb3.cell (p := ⟨b, 0, none⟩) (show b < W2.heap.size by omega)).trans x3
                  have BXF := Lib.hid (BXE.out.next hb3)
                  have HTB := Lib.hid (HX1'.out.next hb3)
                  have HTC := Lib.hid (HX2.out.next hb3)
                  have HVF := Lib.hid (HVE.out.next hb3)
                  have HWF := Lib.hid (HWE.out.next hb3)
                  have K3 := Lib.hid (below_next K2.out (Nat.le_refl _) hb3)
                  have zu3 := hb3.size
                  have ztb : t21 < W3.heap.size := HTB.out.lt
                  have zbx3 : R.heap.size < W3.heap.size := BXF.out.lt
                  have nx21 : R.heap.size ≠ t21 := by omega
                  have nb21 : b ≠ t21 := by omega
                  have nx24 : R.heap.size ≠ t24 := by omega
                  have nb24 : b ≠ t24 := by omega
                  have n2124 : t24 ≠ t21 := by omega
                  have zbW3 : b < W3.heap.size := by omega
                  have y0 := BXF.out.cell 0
                  have y1 := BXF.out.cell 1
                  have y2 := BXF.out.cell 2
                  simp at y0 y1 y2
                  clear hN2 x3 hb3 K2 BXE HX1' HX2 HVE HWE HDE HAX' HAY HTX' HTY r0 r1 r2 rz q0 q1 q2 qz
                  go_cut [22, 23] (fun f e wx => f = .int .i64 f2 ∧ e = .int .i64 e2 ∧ SpIn W3 t21 s2 nw2 n2 wd2 F2' wx)
                  case first =>
                    have y0d : W3.drew.cell? ⟨R.heap.size, 0, none⟩ = some (.int .i64 s) := y0
                    have y1d : W3.drew.cell? ⟨R.heap.size, 1, none⟩ = some (.slice A nw c) := y1
                    have y2d : W3.drew.cell? ⟨R.heap.size, 2, none⟩ = some (.slice A' n c') := y2
                    have y3d : W3.drew.cell? ⟨b, 0, none⟩ = some (.int .i64 x) := y3
                    have HUDH := Lib.hid (show Below W3.heap.size W3 W3.drew from (Below.refl _ _).drew)
                    have HTBD := Lib.hid (show Blk W3.drew t21 26 _ from HTB.out)
                    go_region_held3 (fun w' => w'.cell? ⟨R.heap.size, 0, none⟩ = some (.int .i64 s) ∧ w'.cell? ⟨R.heap.size, 1, none⟩ = some (.slice A nw c) ∧ w'.cell? ⟨R.heap.size, 2, none⟩ = some (.slice A' n c') ∧ w'.cell? ⟨b, 0, none⟩ = some (.int .i64 x))
                      (first | (with_reducible exact ⟨y0d, y1d, y2d, y3d⟩) | (with_reducible exact ⟨u0, u1, u2, u3⟩) | (with_reducible exact ⟨(cell_far3 nx21 _ _ _).trans u0, (cell_far3 nx21 _ _ _).trans u1, (cell_far3 nx21 _ _ _).trans u2, (cell_far3 nb21 _ _ _).trans u3⟩) | go_keep)
                      (first
                        | (go_at_call 21; refine (N.out _ HUDH.out).mono ?_; rintro e wn ⟨RA, rc, RA', rc', rfl, ho, ht, hb⟩; have u0 : wn.cell? ⟨R.heap.size, 0, none⟩ = some (.int .i64 s) := (hb.cell (p := ⟨R.heap.size, 0, none⟩) (by simp; omega)).trans y0d; have u1 : wn.cell? ⟨R.heap.size, 1, none⟩ = some (.slice A nw c) := (hb.cell (p := ⟨R.heap.size, 1, none⟩) (by simp; omega)).trans y1d; have u2 : wn.cell? ⟨R.heap.size, 2, none⟩ = some (.slice A' n c') := (hb.cell (p := ⟨R.heap.size, 2, none⟩) (by simp; omega)).trans y2d; have u3 : wn.cell? ⟨b, 0, none⟩ = some (.int .i64 x) := (hb.cell (p := ⟨b, 0, none⟩) (by simp; omega)).trans y3d; have bb := HTBD.out.next hb; have bz := bb.lt; have t0 := bb.cell 0; have t1 := bb.cell 1; have t2 := bb.cell 2; have t3 := bb.frozen 0; have t4 := bb.frozen 1; have t5 := bb.frozen 2; simp at t0 t1 t2))
                    have HBX := Lib.hid (spin_put (s := s2) HUDH.out hb bb ztb ho ht)
                    clear hb ho ht bb t0 t1 t2 t3 t4 t5
                    go_wp2
                    go_meet
                    exact ⟨rfl, rfl, HBX.out⟩
                  case rest =>
                    obtain ⟨W4, rfl⟩ : ∃ W4, W4 = wc := ⟨_, rfl⟩
                    obtain ⟨rfl, rfl, B3, k3, B3', k3', hx3, ha3, ht3, hb3, hk3⟩ := hcut
                    have BXG := Lib.hid ((show Blk W4 R.heap.size 26 _ from (hk3 _ BXF.out.lt nx21).trans BXF.out))
                    have HTC' := Lib.hid ((show Blk W4 t24 26 _ from (hk3 _ HTC.out.lt n2124).trans HTC.out))
                    have hb3R : Below P.heap.size W3 W4 := hb3 P.heap.size (by omega) (by omega)
                    have hb3W := hb3 W0.heap.size (by omega) (by omega)
                    have y3' := (hb3W.cell (p := ⟨b, 0, none⟩) zbW).trans y3
                    have HVG := Lib.hid ((HVA.out.below (K3.out.trans hb3R)).more (show P.heap.size ≤ W4.heap.size by have := hb3R.size; omega))
                    have HWG := Lib.hid ((HVT.out.below (K3.out.trans hb3R)).more (show P.heap.size ≤ W4.heap.size by have := hb3R.size; omega))
                    have K4 := Lib.hid (show Below P.heap.size P W4 from K3.out.trans hb3R)
                    have zu4 := hb3R.size
                    have HTD := Lib.hid hx3
                    have HAD := Lib.hid ha3
                    have HTDT := Lib.hid ht3
                    have zt24 : t24 < W4.heap.size := HTC'.out.lt
                    clear y0 y1 y2 y3 hx3 ha3 ht3 hb3 hk3 hb3R hb3W K3 HVF HWF BXF N HTB HTC ztb
                    have y3 := y3'
                    have y0 := BXG.out.cell 0
                    have y1 := BXG.out.cell 1
                    have y2 := BXG.out.cell 2
                    have zbx4 : R.heap.size < W4.heap.size := BXG.out.lt
                    simp at y0 y1 y2
                    clear y3'
                    have N := Lib.hid (show ∀ W, Below W4.heap.size W4 W → Calls Tryd.prog 22 #[.agg #[.int .i64 s, .slice A nw c, .slice A' n c'], .int .i64 x] W (GivesSp s2 nw2 n2 wd2 F2' f2 e2 W) from
                      fun W hW => (refGive_any s A A' nw c n c' wd F x W (HVG.out.next hW) (HWG.out.next hW)).mono (fun e w' h => HN2.out W e w' h))
                    have HTB := Lib.hid HTC'.out
                    have ztb := zt24
                    clear HN2
                    go_upto_region 15 with fail
                    go_cut [25, 26] (fun f e wx => f = .int .i64 f2 ∧ e = .int .i64 e2 ∧ SpIn W4 t24 s2 nw2 n2 wd2 F2' wx)
                    case first =>
                      have y0d : W4.drew.cell? ⟨R.heap.size, 0, none⟩ = some (.int .i64 s) := y0
                      have y1d : W4.drew.cell? ⟨R.heap.size, 1, none⟩ = some (.slice A nw c) := y1
                      have y2d : W4.drew.cell? ⟨R.heap.size, 2, none⟩ = some (.slice A' n c') := y2
                      have y3d : W4.drew.cell? ⟨b, 0, none⟩ = some (.int .i64 x) := y3
                      have HUDH := Lib.hid (show Below W4.heap.size W4 W4.drew from (Below.refl _ _).drew)
                      have HTBD := Lib.hid (show Blk W4.drew t24 26 _ from HTB.out)
                      go_region_held3 (fun w' => w'.cell? ⟨R.heap.size, 0, none⟩ = some (.int .i64 s) ∧ w'.cell? ⟨R.heap.size, 1, none⟩ = some (.slice A nw c) ∧ w'.cell? ⟨R.heap.size, 2, none⟩ = some (.slice A' n c') ∧ w'.cell? ⟨b, 0, none⟩ = some (.int .i64 x))
                        (first | (with_reducible exact ⟨y0d, y1d, y2d, y3d⟩) | (with_reducible exact ⟨u0, u1, u2, u3⟩) | (with_reducible exact ⟨(cell_far3 nx24 _ _ _).trans u0, (cell_far3 nx24 _ _ _).trans u1, (cell_far3 nx24 _ _ _).trans u2, (cell_far3 nb24 _ _ _).trans u3⟩) | go_keep)
                        (first
                          | (go_at_call 22; refine (N.out _ HUDH.out).mono ?_; rintro e wn ⟨RA, rc, RA', rc', rfl, ho, ht, hb⟩; have u0 : wn.cell? ⟨R.heap.size, 0, none⟩ = some (.int .i64 s) := (hb.cell (p := ⟨R.heap.size, 0, none⟩) (by simp; omega)).trans y0d; have u1 : wn.cell? ⟨R.heap.size, 1, none⟩ = some (.slice A nw c) := (hb.cell (p := ⟨R.heap.size, 1, none⟩) (by simp; omega)).trans y1d; have u2 : wn.cell? ⟨R.heap.size, 2, none⟩ = some (.slice A' n c') := (hb.cell (p := ⟨R.heap.size, 2, none⟩) (by simp; omega)).trans y2d; have u3 : wn.cell? ⟨b, 0, none⟩ = some (.int .i64 x) := (hb.cell (p := ⟨b, 0, none⟩) (by simp; omega)).trans y3d; have bb := HTBD.out.next hb; have bz := bb.lt; have t0 := bb.cell 0; have t1 := bb.cell 1; have t2 := bb.cell 2; have t3 := bb.frozen 0; have t4 := bb.frozen 1; have t5 := bb.frozen 2; simp at t0 t1 t2))
                      have HBX := Lib.hid (spin_put (s := s2) HUDH.out hb bb ztb ho ht)
                      clear hb ho ht bb t0 t1 t2 t3 t4 t5
                      go_wp2
                      go_meet
                      exact ⟨rfl, rfl, HBX.out⟩
                    case rest =>
                      obtain ⟨W5, rfl⟩ : ∃ W5, W5 = wc := ⟨_, rfl⟩
                      obtain ⟨rfl, rfl, B4, k4, B4', k4', hx4, ha4, ht4, hb4, hk4⟩ := hcut
                      have hb4R : Below P.heap.size W4 W5 := hb4 P.heap.size (by omega) (by omega)
                      have HA5 := Lib.hid (HAD.out.box_turn HTB.out hk4 hb4R.size)
                      have HT5 := Lib.hid (HTDT.out.box_turn HTB.out hk4 hb4R.size)
                      have B5 : Blk W5 t21 26 #[.int .i64 s2, .slice B3 nw2 k3, .slice B3' n2 k3'] := (hk4 _ HTD.out.lt (fun e => n2124 e.symm)).trans HTD.out
                      have HA6 := Lib.hid ha4
                      have HT6 := Lib.hid ht4
                      have K5 := Lib.hid (show Below P.heap.size P W5 from K4.out.trans hb4R)
                      have r0 := B5.cell 0
                      have r1 := B5.cell 1
                      have r2 := B5.cell 2
                      have rz := B5.lt
                      have q0 := hx4.cell 0
                      have q1 := hx4.cell 1
                      have q2 := hx4.cell 2
                      have qz := hx4.lt
                      simp at r0 r1 r2 q0 q1 q2
                      clear hx4 ha4 ht4 hb4 hk4 hb4R B5 y0 y1 y2 y3
                      go_wp2_with (go_at_call 20; refine (sameSp_yes s2 B3 B3' B4 B4' nw2 k3 k4 n2 k3' k4' wd2 F2' W5 HA5.out HA6.out HT5.out HT6.out hnw2 hn2).mono ?_; rintro e W6 ⟨rfl, hb6⟩)
                      exact ⟨⟨l + 1, by omega, by go_num, below_next K5.out (Nat.le_refl _) hb6⟩, by simp [intOf]; omega⟩
            · obtain rfl : l = 3 := by omega
              have HB7 := Lib.hid (below_next HBP.out (Nat.le_refl _) hb)
              clear hb
              go_wp2_with fail
              exact ⟨⟨j + 1, by omega, by go_num, HB7.out⟩, by simp [intOf]; omega⟩
        · obtain rfl : j = 3 := by omega
          have HB8 := Lib.hid (below_next HBC.out (Nat.le_refl _) hb)
          have HD8 := Lib.hid (HDC.out.next hb)
          clear hb
          go_wp2_with (go_at_call 14; refine (awake4_any _ HD8.out).mono ?_; rintro e w9 ⟨rfl, hb9⟩)
          go_ret
          exact ⟨rfl, below_next HB8.out (Nat.le_refl _) hb9⟩
end Go.Proofs.YtpjhgdgdckndeaaDoor
