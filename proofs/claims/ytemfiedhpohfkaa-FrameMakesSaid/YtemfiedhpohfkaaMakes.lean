/-
  The walk of FrameMakes.
-/
import Derived.Test.YtemfiedhpohfkaaParts
namespace Go.Proofs.Ytemfiedhpohfkaa
open Go.RowKit
set_option linter.unusedVariables false

/-- The rows of a space can be read. -/
def YV (W : World) (s : Int) (A : Option Addr) (nw c : Nat) (A' : Option Addr) (n c' : Nat) : Prop := ∃ wd F, Arr W W.heap.size A nw c wd ∧ Tab W W.heap.size A' n c' F
theorem YV.next {W W' : World} {s : Int} {A A' : Option Addr} {nw c n c' : Nat} (h : YV W s A nw c A' n c') (hb : Below W.heap.size W W') : YV W' s A nw c A' n c' := by
  obtain ⟨wd, F, h1, h2⟩ := h
  exact ⟨wd, F, h1.next hb, h2.next hb⟩

/-- The j-th space of a slice of spaces in block Q. -/
def YAt (W : World) (Q j : Nat) : Prop := ∃ (s : Int) (A : Option Addr) (nw c : Nat) (A' : Option Addr) (n c' : Nat), W.cell? ⟨Q, j * 3, none⟩ = some (.int .i64 s) ∧ W.cell? ⟨Q, j * 3 + 1, none⟩ = some (.slice A nw c) ∧ W.cell? ⟨Q, j * 3 + 2, none⟩ = some (.slice A' n c') ∧ YV W s A nw c A' n c'

/-- What New gives, on either side. -/
def NewGives (s err : Int) (nw n : Nat) (w : World) (e : Ending) (w' : World) : Prop :=
  ∃ A c A' c', e = .returned (.tuple #[.agg #[.int .i64 s, .slice A nw c, .slice A' n c'], .int .i64 err]) ∧ Own w' w.heap.size A nw c (fun _ => 0) ∧ OwnT w' w.heap.size A' n c' (fun _ => frFree) ∧ Below w.heap.size w w'

theorem news (x y : Int) : ∃ (s err : Int) (nw n : Nat), nw ≤ 16384 ∧ n ≤ 64 ∧ (∀ w, Calls Try.prog 17 #[.int .i64 x, .int .i64 y] w (NewGives s err nw n w)) ∧ (∀ w, Calls Try.prog 18 #[.int .i64 x, .int .i64 y] w (NewGives s err nw n w)) := by
  by_cases h : shB x = true ∧ nfB y = true
  · obtain ⟨h1, h2⟩ := h
    obtain ⟨x0, x1⟩ := shB_yes h1
    have h2' : 2 ≤ y ∧ y ≤ 64 := by simpa [nfB] using h2
    obtain ⟨k, rfl⟩ : ∃ k : Nat, x = k := ⟨x.toNat, by omega⟩
    obtain ⟨n, rfl⟩ : ∃ n : Nat, y = n := ⟨y.toNat, by omega⟩
    refine ⟨k, 0, n * 2 ^ k, n, prod_le (by omega) (by omega), by omega, fun w => (new_yes k n w (by omega) (by omega) (by omega) (by omega)).mono ?_, fun w => (refNew_yes k n w (by omega) (by omega) (by omega) (by omega)).mono ?_⟩
    all_goals
      rintro e w' ⟨A, A', rfl, ho, ht, hb⟩
      exact ⟨A, _, A', _, rfl, ho, ht, hb⟩
  · have h' : shB x = false ∨ nfB y = false := by
      rcases h1 : shB x with _ | _
      · exact .inl rfl
      · rcases h2 : nfB y with _ | _
        · exact .inr rfl
        · exact absurd ⟨h1, h2⟩ h
    refine ⟨0, 1, 0, 0, by omega, by omega, fun w => (new_no x y w h').mono ?_, fun w => (refNew_no x y w h').mono ?_⟩
    all_goals
      rintro e w' ⟨rfl, hb⟩
      exact ⟨none, 0, none, 0, rfl, Own.nil_ _ _ _, OwnT.nil_ _ _ _, hb⟩

/-- The j-th of a slice of pairs of numbers in block Q. -/
def TwoAt (W : World) (Q j : Nat) : Prop := ∃ (b : Nat) (x y : Int), b < W.heap.size ∧ W.cell? ⟨Q, j, none⟩ = some (.slice (some ⟨b, 0, none⟩) 2 2) ∧ W.cell? ⟨b, 0, none⟩ = some (.int .i64 x) ∧ W.cell? ⟨b, 1, none⟩ = some (.int .i64 y)

theorem cell_far3 {W : World} {b g o : Nat} (h : g ≠ b) (v0 v1 v2 : Value) : (((W.setCell ⟨b, 0, none⟩ v0).setCell ⟨b, 1, none⟩ v1).setCell ⟨b, 2, none⟩ v2).cell? ⟨g, o, none⟩ = W.cell? ⟨g, o, none⟩ := by
  rw [World.cell?_setCell_other _ _ _ _ (by intro e; injection e; omega), World.cell?_setCell_other _ _ _ _ (by intro e; injection e; omega), World.cell?_setCell_other _ _ _ _ (by intro e; injection e; omega)]

/-- A box of a new space. -/
def BoxAt (R : World) (s : Int) (nw n : Nat) (v : Value) (W : World) : Prop := ∃ (b : Nat) (A : Option Addr) (c : Nat) (A' : Option Addr) (c' : Nat), v = .pointer (some ⟨b, 0, none⟩) ∧ Blk W b 25 #[.int .i64 s, .slice A nw c, .slice A' n c'] ∧
  Arr W W.heap.size A nw c (fun _ => 0) ∧ Tab W W.heap.size A' n c' (fun _ => frFree) ∧ Below R.heap.size R W

theorem box_late {R U wn : World} {s : Int} {nw n c c' : Nat} {A A' : Option Addr} (hU : Below R.heap.size R U) (hb : Below U.heap.size U wn) (ho : Own wn U.heap.size A nw c (fun _ => 0)) (ht : OwnT wn U.heap.size A' n c' (fun _ => frFree)) :
    BoxAt R s nw n (.pointer (some ⟨wn.heap.size, 0, none⟩)) (wn.alloc (.cells #[.int .i64 s, .slice A nw c, .slice A' n c'] 25)) := by
  have h1 : Below wn.heap.size wn (wn.alloc (.cells #[.int .i64 s, .slice A nw c, .slice A' n c'] 25)) := (Below.refl _ _).alloc (Nat.le_refl _) _
  exact ⟨_, A, c, A', c', rfl, Blk.new _ _ _, (ho.below h1).arr, (ht.below h1).tab, below_next (below_next hU (Nat.le_refl _) hb) (Nat.le_refl _) h1⟩
theorem box_early {R U wn : World} {s : Int} {nw n c c' b : Nat} {A A' : Option Addr} {cs : Array Value} (hbR : R.heap.size ≤ b) (hU : Below R.heap.size R U) (hb : Below U.heap.size U wn) (bb : Blk wn b 25 cs) (hbU : b < U.heap.size) (hcs : cs.size = 3) (ho : Own wn U.heap.size A nw c (fun _ => 0)) (ht : OwnT wn U.heap.size A' n c' (fun _ => frFree)) :
    BoxAt R s nw n (.pointer (some ⟨b, 0, none⟩)) (((wn.setCell ⟨b, 0, none⟩ (.int .i64 s)).setCell ⟨b, 1, none⟩ (.slice A nw c)).setCell ⟨b, 2, none⟩ (.slice A' n c')) := by
  have hset : ((cs.setIfInBounds 0 (.int .i64 s)).setIfInBounds 1 (.slice A nw c)).setIfInBounds 2 (.slice A' n c') = #[.int .i64 s, .slice A nw c, .slice A' n c'] := by
    obtain ⟨l⟩ := cs
    match l, hcs with
    | [_, _, _], _ => rfl
  refine ⟨b, A, c, A', c', rfl, ?_, (ho.put3 hbU _ _ _).arr, (ht.put3 hbU _ _ _).tab, below_put3 (below_next hU (Nat.le_refl _) hb) hbR _ _ _⟩
  rw [← hset]
  exact ((bb.set_ 0 _).set_ 1 _).set_ 2 _

set_option maxRecDepth 100000 in
set_option maxHeartbeats 4000000 in
theorem walkMakes (s : Int) (A A' : Option Addr) (nw c n c' : Nat) (wd0 : Nat → Int) (F0 : Nat → Fr) (Al : Option Addr) (nl cl : Nat) (sh nn what at_ by_ : Int) (w : World) (hA : Arr w w.heap.size A nw c wd0) (hT : Tab w w.heap.size A' n c' F0) (hL : ListP w w.heap.size Al nl cl)
    (a0 : -9223372036854775808 ≤ sh) (a1 : sh ≤ 9223372036854775807) (b0 : -9223372036854775808 ≤ nn) (b1 : nn ≤ 9223372036854775807) (c0 : -9223372036854775808 ≤ what) (c1 : what ≤ 9223372036854775807) (d0 : -9223372036854775808 ≤ at_) (d1 : at_ ≤ 9223372036854775807) (e0 : -9223372036854775808 ≤ by_) (e1 : by_ ≤ 9223372036854775807) :
    Calls Try.prog 3 #[.agg #[.int .i64 s, .slice A nw c, .slice A' n c'], .slice Al nl cl, .int .i64 sh, .int .i64 nn, .int .i64 what, .int .i64 at_, .int .i64 by_] w fun e w' => e = .returned (.bool true) ∧ Below w.heap.size w w' := by
  obtain ⟨U, hU⟩ : ∃ U, U = w.alloc (.cells #[.int .i64 s, .slice A nw c, .slice A' n c'] 25) := ⟨_, rfl⟩
  have BX := Lib.hid (show Blk U w.heap.size 25 #[.int .i64 s, .slice A nw c, .slice A' n c'] by rw [hU]; exact Blk.new _ _ _)
  have hbu : Below w.heap.size w U := by rw [hU]; exact (Below.refl _ _).alloc (Nat.le_refl _) _
  have HBU := Lib.hid hbu
  have HU := Lib.hid hU
  have HL := Lib.hid (hL.next hbu)
  have HA0 := Lib.hid hA
  have HT0 := Lib.hid hT
  clear hL hU hbu hA hT
  go_enter Try.func3, Try.ntmps3
  go_wp2_with fail
  rw [← HU.out]
  refine (small_any s A A' nw c n c' U).mono ?_
  rintro e U1 ⟨rfl, hb⟩
  have BX1 := Lib.hid (BX.out.next hb)
  have HBU1 := Lib.hid (below_next HBU.out (Nat.le_refl _) hb)
  have HL1 := Lib.hid (HL.out.next hb)
  clear hb BX HBU HL HU
  obtain ⟨sm, hsm, hn⟩ : ∃ b, (decide (nw ≤ 3000) && decide (n ≤ 80)) = b ∧ (b = true → n ≤ 80) := ⟨_, rfl, by simp⟩
  rw [hsm]
  clear hsm
  rcases sm with _ | _
  · go_wp2_with (go_at_call 8; refine (awake_any _).mono ?_; rintro e w6 ⟨rfl, b6⟩; have HB6 := Lib.hid b6; clear b6)
    go_ret
    exact ⟨rfl, below_next HBU1.out (Nat.le_refl _) HB6.out⟩
  · have hn80 := hn rfl
    clear hn
    go_wp2_with fail
    refine (deck_any Al nl cl U1 HL1.out).mono ?_
    rintro e U2 ⟨rfl, hd, hb, hz⟩
    have HD := Lib.hid hd
    have BX2 := Lib.hid (BX1.out.next hb)
    have HBU2 := Lib.hid (below_next HBU1.out (Nat.le_refl _) hb)
    have zz := BX1.out.lt
    clear hd hb BX1 HBU1 HL1
    go_wp2_with fail
    refine (space_any U1.heap.size U2 HD.out).mono ?_
    rintro e U3 ⟨k, m, B, d, gb, d', wd, F, L, rfl, k0, k1, m0, m1, ho, ht, _, _, hG⟩
    have BX3 := Lib.hid (BX2.out.turn hG (by omega))
    have HBU3 := Lib.hid (below_turn HBU2.out hG (by omega))
    have HS3 := Lib.hid (show YV U3 k B (m * 2 ^ k) d (some ⟨gb, 0, none⟩) m d' from ⟨_, _, ho.arr, ht.tab⟩)
    clear hG BX2 HBU2 HD hz ho ht
    go_wp2_with fail
    obtain ⟨V, hV⟩ : ∃ V, V = U3.alloc (.cells #[.int .i64 k, .slice B (m * 2 ^ k) d, .slice (some ⟨gb, 0, none⟩) m d'] 25) := ⟨_, rfl⟩
    have hbv : Below U3.heap.size U3 V := by rw [hV]; exact (Below.refl _ _).alloc (Nat.le_refl _) _
    have BY := Lib.hid (show Blk V U3.heap.size 25 #[.int .i64 k, .slice B (m * 2 ^ k) d, .slice (some ⟨gb, 0, none⟩) m d'] by rw [hV]; exact Blk.new _ _ _)
    have BX4 := Lib.hid (BX3.out.next hbv)
    have HBV := Lib.hid (below_next HBU3.out (Nat.le_refl _) hbv)
    have HR4 := Lib.hid (show YV V s A nw c A' n c' from ⟨wd0, F0, (HA0.out.below HBV.out).more HBV.out.size, (HT0.out.below HBV.out).more HBV.out.size⟩)
    have HS4 := Lib.hid (HS3.out.next hbv)
    rw [← hV]
    clear hV hbv BX3 HBU3 HS3 HA0 HT0
    have p0 := BX4.out.cell 0
    have p1 := BX4.out.cell 1
    have p2 := BX4.out.cell 2
    have q0 := BY.out.cell 0
    have q1 := BY.out.cell 1
    have q2 := BY.out.cell 2
    simp at p0 p1 p2 q0 q1 q2
    have h2k := Nat.two_pow_pos k
    have hmk0 : 0 < m * 2 ^ k := Nat.mul_pos (by omega) h2k
    have hmk1 : m * 2 ^ k ≤ 16384 := prod_le (by omega) (by omega)
    obtain ⟨mk, hmk⟩ : ∃ mk, mk = m * 2 ^ k := ⟨_, rfl⟩
    rw [← hmk] at HS4 hmk0 hmk1 BY q1 ⊢
    clear hmk h2k
    obtain ⟨wd2, F2, hsa, hst⟩ := HS4.out
    have HSA := Lib.hid (show Arr V.drew V.drew.heap.size B mk d wd2 from hsa)
    have HST := Lib.hid (show Tab V.drew V.drew.heap.size (some ⟨gb, 0, none⟩) m d' F2 from hst)
    have hc : Below V.drew.heap.size V.drew V.drew := Below.refl _ _
    have zx : w.heap.size < V.drew.heap.size := BX4.out.lt
    have zy : U3.heap.size < V.drew.heap.size := BY.out.lt
    clear hsa hst
    go_upto_region 4 with fail
    go_cut [49, 50, 51] (fun q l i wx => l = .int .i64 4 ∧ i = .int .i64 0 ∧ ∃ Q, q = .slice (some ⟨Q, 0, none⟩) 4 4 ∧ (∀ j, j < 4 → YAt wx Q j) ∧ Q < wx.heap.size ∧ Below w.heap.size w wx)
    case first =>
      go_region_held3 (fun w' => w'.cell? ⟨w.heap.size, 0, none⟩ = some (.int .i64 s) ∧ w'.cell? ⟨w.heap.size, 1, none⟩ = some (.slice A nw c) ∧ w'.cell? ⟨w.heap.size, 2, none⟩ = some (.slice A' n c') ∧ w'.cell? ⟨U3.heap.size, 0, none⟩ = some (.int .i64 k) ∧ w'.cell? ⟨U3.heap.size, 1, none⟩ = some (.slice B mk d) ∧ w'.cell? ⟨U3.heap.size, 2, none⟩ = some (.slice (some ⟨gb, 0, none⟩) m d'))
        (first | exact ⟨p0, p1, p2, q0, q1, q2⟩ | exact ⟨(hc.cell (p := ⟨_, 0, none⟩) zx).trans p0, (hc.cell (p := ⟨_, 1, none⟩) zx).trans p1, (hc.cell (p := ⟨_, 2, none⟩) zx).trans p2, (hc.cell (p := ⟨_, 0, none⟩) zy).trans q0, (hc.cell (p := ⟨_, 1, none⟩) zy).trans q1, (hc.cell (p := ⟨_, 2, none⟩) zy).trans q2⟩ | go_keep)
        (first
          | (go_at_call 11; (with_reducible show Calls Try.prog _ #[_, .int .i64 what, .int .i64 at_, .int .i64 by_] _ _); refine (spoilt_any k B (some ⟨gb, 0, none⟩) mk d m d' wd2 F2 what at_ by_ _ (HSA.out.next hc) (HST.out.next hc) (by omega) (by omega) (by omega) hmk0 c0 c1 d0 d1 e0 e1).mono ?_; rintro e wq ⟨k1, nw1, c1, g1, c1', A1, wd1, F1, rfl, lo, hi, ho, ht, hb⟩; have hc := below_next hc (Nat.le_refl _) hb; (try have r2 := r2.next hb); (try have r2t := r2t.next hb); (try have r3 := r3.next hb); (try have r3t := r3t.next hb); have r1 := ho.arr; have r1t := ht.tab)
          | (go_at_call 11; (with_reducible show Calls Try.prog _ #[_, .int .i64 2, .int .i64 at_, .int .i64 by_] _ _); refine (spoilt_any k B (some ⟨gb, 0, none⟩) mk d m d' wd2 F2 2 at_ by_ _ (HSA.out.next hc) (HST.out.next hc) (by omega) (by omega) (by omega) hmk0 (by omega) (by omega) d0 d1 e0 e1).mono ?_; rintro e wq ⟨k5, nw5, c5, g5, c5', A5, wd5, F5, rfl, lo, hi, ho, ht, hb⟩; have hc := below_next hc (Nat.le_refl _) hb; (try have r1 := r1.next hb); (try have r1t := r1t.next hb); have r2 := ho.arr; have r2t := ht.tab)
          | (go_at_call 11; (with_reducible show Calls Try.prog _ #[_, .int .i64 2, .int .i64 by_, .int .i64 at_] _ _); refine (spoilt_any k5 A5 (some ⟨g5, 0, none⟩) nw5 c5 m c5' wd5 F5 2 by_ at_ _ r2 r2t (by omega) (by omega) (by omega) (by omega) (by omega) (by omega) e0 e1 d0 d1).mono ?_; rintro e wq ⟨k6, nw6, c6, g6, c6', A6, wd6, F6, rfl, lo, hi, ho, ht, hb⟩; have hc := below_next hc (Nat.le_refl _) hb; (try have r1 := r1.next hb); (try have r1t := r1t.next hb); (try have r2 := r2.next hb); (try have r2t := r2t.next hb); have r3 := ho.arr; have r3t := ht.tab))
      obtain ⟨W, hW⟩ : ∃ W, W = wq.alloc (.cells #[.int .i64 s, .slice A nw c, .slice A' n c', .int .i64 k, .slice B mk d, .slice (some ⟨gb, 0, none⟩) m d', .int .i64 k1, .slice A1 nw1 c1, .slice (some ⟨g1, 0, none⟩) m c1', .int .i64 k6, .slice A6 nw6 c6, .slice (some ⟨g6, 0, none⟩) m c6'] 25) := ⟨_, rfl⟩
      have hbw : Below wq.heap.size wq W := by rw [hW]; exact (Below.refl _ _).alloc (Nat.le_refl _) _
      have hq : Blk W wq.heap.size 25 #[.int .i64 s, .slice A nw c, .slice A' n c', .int .i64 k, .slice B mk d, .slice (some ⟨gb, 0, none⟩) m d', .int .i64 k1, .slice A1 nw1 c1, .slice (some ⟨g1, 0, none⟩) m c1', .int .i64 k6, .slice A6 nw6 c6, .slice (some ⟨g6, 0, none⟩) m c6'] := by rw [hW]; exact Blk.new _ _ _
      have v0 : YV V.drew s A nw c A' n c' := HR4.out
      have v1 : YV V.drew k B mk d (some ⟨gb, 0, none⟩) m d' := HS4.out
      have v2 : YV wq k1 A1 nw1 c1 (some ⟨g1, 0, none⟩) m c1' := ⟨_, _, r1, r1t⟩
      have v3 : YV wq k6 A6 nw6 c6 (some ⟨g6, 0, none⟩) m c6' := ⟨_, _, r3, r3t⟩
      have HBW : Hid (Below w.heap.size w W) := below_next (below_next HBV.out.drew (Nat.le_refl _) hc) (Nat.le_refl _) hbw
      have HYA : Hid (∀ j, j < 4 → YAt W wq.heap.size j) := by
        intro j hj
        rcases (by omega : j = 0 ∨ j = 1 ∨ j = 2 ∨ j = 3) with e | e | e | e <;> subst e
        · exact ⟨_, _, _, _, _, _, _, hq.cell 0, hq.cell 1, hq.cell 2, (v0.next hc).next hbw⟩
        · exact ⟨_, _, _, _, _, _, _, hq.cell 3, hq.cell 4, hq.cell 5, (v1.next hc).next hbw⟩
        · exact ⟨_, _, _, _, _, _, _, hq.cell 6, hq.cell 7, hq.cell 8, v2.next hbw⟩
        · exact ⟨_, _, _, _, _, _, _, hq.cell 9, hq.cell 10, hq.cell 11, v3.next hbw⟩
      have HQ := Lib.hid hq.lt
      rw [← hW]
      clear hW hbw hq v0 v1 v2 v3 r1 r1t r2 r2t r3 r3t hc
      go_wp2
      go_meet
      exact ⟨rfl, rfl, _, rfl, HYA.out, HQ.out, HBW.out⟩
    case rest =>
      obtain ⟨rfl, rfl, Q, rfl, hYA, hQ, hB⟩ := hcut
      have HYA := Lib.hid hYA
      have HBC := Lib.hid hB
      clear hYA hB HR4 HS4 HSA HST BX4 BY hc p0 p1 p2 q0 q1 q2 zx zy HBV
      go_wp2_with fail
      go_loopw [51] (fun i wr => ∃ j : Nat, j ≤ 4 ∧ i = .int .i64 j ∧ Below wc.heap.size wc wr) (fun i _ => 4 - (intOf i).toNat)
      case atStart => exact ⟨0, Nat.zero_le _, rfl, Below.refl _ _⟩
      case round =>
        obtain ⟨R, rfl⟩ : ∃ R, R = wr := ⟨_, rfl⟩
        obtain ⟨j, hj, rfl, hb⟩ := hrel
        by_cases hlt : j < 4
        · obtain ⟨s, A, nw, c, A', n, c', x0, x1, x2, hv⟩ := HYA.out j hlt
          have zr : wc.heap.size ≤ R.heap.size := hb.size
          have x0' := (hb.cell (p := ⟨Q, j * 3, none⟩) hQ).trans x0
          have x1' := (hb.cell (p := ⟨Q, j * 3 + 1, none⟩) hQ).trans x1
          have x2' := (hb.cell (p := ⟨Q, j * 3 + 2, none⟩) hQ).trans x2
          obtain ⟨P, hP⟩ : ∃ P, P = R.alloc (.cells #[.int .i64 s, .slice A nw c, .slice A' n c'] 25) := ⟨_, rfl⟩
          have bx : Blk P R.heap.size 25 #[.int .i64 s, .slice A nw c, .slice A' n c'] := by rw [hP]; exact Blk.new _ _ _
          have hbp : Below R.heap.size R P := by rw [hP]; exact (Below.refl _ _).alloc (Nat.le_refl _) _
          obtain ⟨wd, F, hva, hvt⟩ := (hv.next hb).next hbp
          have HVA := Lib.hid (show Arr P.drew P.drew.heap.size A nw c wd from hva)
          have HVT := Lib.hid (show Tab P.drew P.drew.heap.size A' n c' F from hvt)
          have HBP := Lib.hid (below_next hb (Nat.le_refl _) hbp)
          have hj2 : 0 ≤ (j : Int) ∧ (j : Int) < 4 := by omega
          have p0 := bx.cell 0
          have p1 := bx.cell 1
          have p2 := bx.cell 2
          have zp : R.heap.size < P.drew.heap.size := bx.lt
          have hc : Below P.drew.heap.size P.drew P.drew := Below.refl _ _
          simp at p0 p1 p2
          have HP := Lib.hid hP
          obtain ⟨vb, hvb⟩ : ∃ vb, validB s nw wd n F = vb := ⟨_, rfl⟩
          have HVB := Lib.hid hvb
          clear hb x0 x1 x2 hv hP hbp hva hvt bx hvb
          rcases vb with _ | _
          · go_wp2_with fail
            rw [← HP.out]
            clear HP x0' x1' x2'
            go_region_held3 (fun w' => w'.cell? ⟨R.heap.size, 0, none⟩ = some (.int .i64 s) ∧ w'.cell? ⟨R.heap.size, 1, none⟩ = some (.slice A nw c) ∧ w'.cell? ⟨R.heap.size, 2, none⟩ = some (.slice A' n c'))
              (first | exact ⟨p0, p1, p2⟩ | exact ⟨(hc.cell (p := ⟨_, 0, none⟩) zp).trans p0, (hc.cell (p := ⟨_, 1, none⟩) zp).trans p1, (hc.cell (p := ⟨_, 2, none⟩) zp).trans p2⟩ | go_keep)
              (first
                | (go_at_call 12; refine (valid_any s A A' nw c n c' wd F _ (HVA.out.next hc) (HVT.out.next hc)).mono ?_; rintro e wq ⟨rfl, hb⟩; rw [HVB.out]; have hc := below_next hc (Nat.le_refl _) hb)
                | (go_at_call 13; refine (refValid_any s A A' nw c n c' wd F _ (HVA.out.next hc) (HVT.out.next hc)).mono ?_; rintro e wq ⟨rfl, hb⟩; rw [HVB.out]; have hc := below_next hc (Nat.le_refl _) hb)
                | (go_at_call 14; refine (size_any s _ _ _).mono ?_; rintro e wq ⟨rfl, hb⟩; have hc := below_next hc (Nat.le_refl _) hb)
                | (go_at_call 15; refine (refSize_any s _ _ _).mono ?_; rintro e wq ⟨rfl, hb⟩; have hc := below_next hc (Nat.le_refl _) hb))
            have HC := Lib.hid (below_next HBP.out.drew (Nat.le_refl _) hc)
            clear hc
            go_wp2_with fail
            exact ⟨⟨j + 1, by omega, by go_num, HC.out⟩, by simp [intOf]; omega⟩
          · go_wp2_with fail
            rw [← HP.out]
            clear HP x0' x1' x2'
            go_region_held3 (fun w' => w'.cell? ⟨R.heap.size, 0, none⟩ = some (.int .i64 s) ∧ w'.cell? ⟨R.heap.size, 1, none⟩ = some (.slice A nw c) ∧ w'.cell? ⟨R.heap.size, 2, none⟩ = some (.slice A' n c'))
              (first | exact ⟨p0, p1, p2⟩ | exact ⟨(hc.cell (p := ⟨_, 0, none⟩) zp).trans p0, (hc.cell (p := ⟨_, 1, none⟩) zp).trans p1, (hc.cell (p := ⟨_, 2, none⟩) zp).trans p2⟩ | go_keep)
              (first
                | (go_at_call 12; refine (valid_any s A A' nw c n c' wd F _ (HVA.out.next hc) (HVT.out.next hc)).mono ?_; rintro e wq ⟨rfl, hb⟩; rw [HVB.out]; have hc := below_next hc (Nat.le_refl _) hb)
                | (go_at_call 13; refine (refValid_any s A A' nw c n c' wd F _ (HVA.out.next hc) (HVT.out.next hc)).mono ?_; rintro e wq ⟨rfl, hb⟩; rw [HVB.out]; have hc := below_next hc (Nat.le_refl _) hb)
                | (go_at_call 14; refine (size_any s _ _ _).mono ?_; rintro e wq ⟨rfl, hb⟩; have hc := below_next hc (Nat.le_refl _) hb)
                | (go_at_call 15; refine (refSize_any s _ _ _).mono ?_; rintro e wq ⟨rfl, hb⟩; have hc := below_next hc (Nat.le_refl _) hb))
            have HC := Lib.hid (below_next HBP.out.drew (Nat.le_refl _) hc)
            clear hc
            go_wp2_with fail
            exact ⟨⟨j + 1, by omega, by go_num, HC.out⟩, by simp [intOf]; omega⟩
        · obtain rfl : j = 4 := by omega
          have HB := Lib.hid (below_next HBC.out (Nat.le_refl _) hb)
          clear hb
          obtain ⟨z0, hz0, z00, z01⟩ : ∃ z, sh % 5 = z ∧ 0 ≤ z ∧ z < 5 := ⟨_, rfl, by omega, by omega⟩
          obtain ⟨z1, hz1, z10, z11⟩ : ∃ z, nn % 9 = z ∧ 0 ≤ z ∧ z < 9 := ⟨_, rfl, by omega, by omega⟩
          obtain ⟨z2, hz2, z20, z21⟩ : ∃ z, sh % 11 = z ∧ 0 ≤ z ∧ z < 11 := ⟨_, rfl, by omega, by omega⟩
          obtain ⟨z3, hz3, z30, z31⟩ : ∃ z, nn % 67 = z ∧ 0 ≤ z ∧ z < 67 := ⟨_, rfl, by omega, by omega⟩
          have HZ0 := Lib.hid hz0
          have HZ1 := Lib.hid hz1
          have HZ2 := Lib.hid hz2
          have HZ3 := Lib.hid hz3
          have s1 : IntKind.i64.wrap (2 + z0) = 2 + z0 := IntWalk.i64_in _ (by omega)
          clear hz0 hz1 hz2 hz3
          go_wp2_with (go_at_call 16; refine (mod_any _ _ (by omega) (by omega) (by omega) (by omega) _).mono ?_; rintro e w' ⟨rfl, rfl⟩; first | rw [HZ0.out] | rw [HZ1.out] | rw [HZ2.out] | rw [HZ3.out])
          obtain ⟨P, hP⟩ : ∃ P, P = (((R.alloc (.cells #[.int .i64 sh, .int .i64 nn] 3)).alloc (.cells #[.int .i64 (2 + z0), .int .i64 z1] 3)).alloc (.cells #[.int .i64 z2, .int .i64 z3] 3)).alloc (.cells #[.slice (some ⟨R.heap.size, 0, none⟩) 2 2, .slice (some ⟨R.heap.size + 1, 0, none⟩) 2 2, .slice (some ⟨R.heap.size + 1 + 1, 0, none⟩) 2 2] 26) := ⟨_, rfl⟩
          have hz4 : R.heap.size + 3 < P.heap.size := by subst hP; simp
          have b0 : Blk P R.heap.size 3 #[.int .i64 sh, .int .i64 nn] := by rw [hP]; exact (((Blk.new _ _ _).alloc _).alloc _).alloc _
          have b1 : Blk P (R.heap.size + 1) 3 #[.int .i64 (2 + z0), .int .i64 z1] := by rw [hP]; exact ((Blk.newAt _ _ _ _ (by simp)).alloc _).alloc _
          have b2 : Blk P (R.heap.size + 1 + 1) 3 #[.int .i64 z2, .int .i64 z3] := by rw [hP]; exact (Blk.newAt _ _ _ _ (by simp)).alloc _
          have b3 : Blk P (R.heap.size + 1 + 1 + 1) 26 #[.slice (some ⟨R.heap.size, 0, none⟩) 2 2, .slice (some ⟨R.heap.size + 1, 0, none⟩) 2 2, .slice (some ⟨R.heap.size + 1 + 1, 0, none⟩) 2 2] := by rw [hP]; exact Blk.newAt _ _ _ _ (by simp)
          have HT : Hid (∀ l, l < 3 → TwoAt P (R.heap.size + 1 + 1 + 1) l) := by
            intro l hl
            rcases (by omega : l = 0 ∨ l = 1 ∨ l = 2) with e | e | e <;> subst e
            · exact ⟨_, _, _, b0.lt, b3.cell 0, b0.cell 0, b0.cell 1⟩
            · exact ⟨_, _, _, b1.lt, b3.cell 1, b1.cell 0, b1.cell 1⟩
            · exact ⟨_, _, _, b2.lt, b3.cell 2, b2.cell 0, b2.cell 1⟩
          have HBP := Lib.hid (below_next HB.out (Nat.le_refl _) (show Below R.heap.size R P by rw [hP]; exact ((((Below.refl _ _).alloc (Nat.le_refl _) _).alloc (by simp) _).alloc (by simp; omega) _).alloc (by simp; omega) _))
          rw [← hP]
          clear hP b0 b1 b2 b3 HZ0 HZ1 HZ2 HZ3 z00 z01 z10 z11 z20 z21 z30 z31 s1
          go_loopw [84] (fun i wr2 => ∃ l : Nat, l ≤ 3 ∧ i = .int .i64 l ∧ Below P.heap.size P wr2) (fun i _ => 3 - (intOf i).toNat)
          case atStart => exact ⟨0, Nat.zero_le _, rfl, Below.refl _ _⟩
          case round =>
            obtain ⟨W0, rfl⟩ : ∃ W0, W0 = wr := ⟨_, rfl⟩
            obtain ⟨l, hl, rfl, hb⟩ := hrel
            by_cases hll : l < 3
            · obtain ⟨b, x, y, zb, t0, t1, t2⟩ := HT.out l hll
              have zr2 : P.heap.size ≤ W0.heap.size := hb.size
              have zbW : b < W0.heap.size := by omega
              have t0' := (hb.cell (p := ⟨R.heap.size + 1 + 1 + 1, l, none⟩) (show R.heap.size + 1 + 1 + 1 < P.heap.size by omega)).trans t0
              have y0 := (hb.cell (p := ⟨b, 0, none⟩) zb).trans t1
              have y1 := (hb.cell (p := ⟨b, 1, none⟩) zb).trans t2
              have K0 := Lib.hid hb
              clear hb t0 t1 t2
              have hl2 : 0 ≤ (l : Int) ∧ (l : Int) < 3 := by omega
              obtain ⟨s, err, nw, n, hnw, hn, hN1, hN2⟩ := news x y
              have N1 := Lib.hid hN1
              have N2 := Lib.hid hN2
              clear hN1 hN2
              go_upto_region 13 with fail
              clear t0'
              go_cut [21, 22] (fun v e wx => e = .int .i64 err ∧ BoxAt W0 s nw n v wx)
              case first =>
                have y0d : W0.drew.cell? ⟨b, 0, none⟩ = some (.int .i64 x) := y0
                have y1d : W0.drew.cell? ⟨b, 1, none⟩ = some (.int .i64 y) := y1
                have y0a : (W0.alloc (.cells #[.int .i64 0, .slice none 0 0, .slice none 0 0] 25)).drew.cell? ⟨b, 0, none⟩ = some (.int .i64 x) := (((Below.refl _ W0).alloc (Nat.le_refl _) (.cells #[.int .i64 0, .slice none 0 0, .slice none 0 0] 25)).cell (p := ⟨b, 0, none⟩) zbW).trans y0
                have y1a : (W0.alloc (.cells #[.int .i64 0, .slice none 0 0, .slice none 0 0] 25)).drew.cell? ⟨b, 1, none⟩ = some (.int .i64 y) := (((Below.refl _ W0).alloc (Nat.le_refl _) (.cells #[.int .i64 0, .slice none 0 0, .slice none 0 0] 25)).cell (p := ⟨b, 1, none⟩) zbW).trans y1
                have HBB : Blk (W0.alloc (.cells #[.int .i64 0, .slice none 0 0, .slice none 0 0] 25)).drew W0.heap.size 25 #[.int .i64 0, .slice none 0 0, .slice none 0 0] := Blk.new _ _ _
                have HUA : Below W0.heap.size W0 (W0.alloc (.cells #[.int .i64 0, .slice none 0 0, .slice none 0 0] 25)).drew := ((Below.refl _ _).alloc (Nat.le_refl _) _).drew
                have HUD : Below W0.heap.size W0 W0.drew := (Below.refl _ _).drew
                have HBBH := Lib.hid HBB
                have HUAH := Lib.hid HUA
                have HUDH := Lib.hid HUD
                clear HBB HUA HUD
                go_region_held3 (fun w' => w'.cell? ⟨b, 0, none⟩ = some (.int .i64 x) ∧ w'.cell? ⟨b, 1, none⟩ = some (.int .i64 y))
                  (first | (with_reducible exact ⟨y0d, y1d⟩) | (with_reducible exact ⟨u0, u1⟩) | (with_reducible exact ⟨y0a, y1a⟩) | (with_reducible exact ⟨(cell_far3 (Nat.ne_of_lt zbW) _ _ _).trans u0, (cell_far3 (Nat.ne_of_lt zbW) _ _ _).trans u1⟩) | go_keep)
                  (first
                    | (go_at_call 17; refine (N1.out _).mono ?_; rintro e wn ⟨B, d, B', d', rfl, ho, ht, hb⟩; have u0 : wn.cell? ⟨b, 0, none⟩ = some (.int .i64 x) := (hb.cell (p := ⟨b, 0, none⟩) (by simp; omega)).trans (by first | (with_reducible exact y0d) | (with_reducible exact y0a)); have u1 : wn.cell? ⟨b, 1, none⟩ = some (.int .i64 y) := (hb.cell (p := ⟨b, 1, none⟩) (by simp; omega)).trans (by first | (with_reducible exact y1d) | (with_reducible exact y1a)); (try have bb : Blk wn W0.heap.size 25 #[.int .i64 0, .slice none 0 0, .slice none 0 0] := (by with_reducible exact HBBH.out.next hb)); (try have bz := bb.lt); (try have t0 := bb.cell 0); (try have t1 := bb.cell 1); (try have t2 := bb.cell 2); (try have t3 := bb.frozen 0); (try have t4 := bb.frozen 1); (try have t5 := bb.frozen 2); (try simp at t0 t1 t2)))
                · have HBX := Lib.hid (box_late (s := s) HUDH.out hb ho ht)
                  clear hb ho ht
                  go_wp2
                  go_meet
                  exact ⟨rfl, HBX.out⟩
                · have HBX := Lib.hid (box_early (s := s) (Nat.le_refl _) HUAH.out hb bb (by simp) rfl ho ht)
                  clear hb ho ht bb t0 t1 t2 t3 t4 t5
                  go_wp2
                  go_meet
                  exact ⟨rfl, HBX.out⟩
              case rest =>
                obtain ⟨W1, rfl⟩ : ∃ W1, W1 = wc := ⟨_, rfl⟩
                obtain ⟨rfl, x1, B1, d1', B2, d2', rfl, hx1, ha1, ht1, hb1⟩ := hcut
                have zbW1 : b < W1.heap.size := by have := hb1.size; omega
                have y0' := (hb1.cell (p := ⟨b, 0, none⟩) zbW).trans y0
                have y1' := (hb1.cell (p := ⟨b, 1, none⟩) zbW).trans y1
                have K1 := Lib.hid (below_next K0.out (Nat.le_refl _) hb1)
                have X1 := Lib.hid hx1
                have A1 := Lib.hid ha1
                have T1 := Lib.hid ht1
                clear hx1 ha1 ht1 hb1 y0 y1 K0 N1
                have y0 := y0'
                have y1 := y1'
                clear y0' y1'
                go_upto_region 14 with fail
                go_cut [23, 24] (fun v e wx => e = .int .i64 err ∧ BoxAt W1 s nw n v wx)
                case first =>
                  have y0d : W1.drew.cell? ⟨b, 0, none⟩ = some (.int .i64 x) := y0
                  have y1d : W1.drew.cell? ⟨b, 1, none⟩ = some (.int .i64 y) := y1
                  have y0a : (W1.alloc (.cells #[.int .i64 0, .slice none 0 0, .slice none 0 0] 25)).drew.cell? ⟨b, 0, none⟩ = some (.int .i64 x) := (((Below.refl _ W1).alloc (Nat.le_refl _) (.cells #[.int .i64 0, .slice none 0 0, .slice none 0 0] 25)).cell (p := ⟨b, 0, none⟩) zbW1).trans y0
                  have y1a : (W1.alloc (.cells #[.int .i64 0, .slice none 0 0, .slice none 0 0] 25)).drew.cell? ⟨b, 1, none⟩ = some (.int .i64 y) := (((Below.refl _ W1).alloc (Nat.le_refl _) (.cells #[.int .i64 0, .slice none 0 0, .slice none 0 0] 25)).cell (p := ⟨b, 1, none⟩) zbW1).trans y1
                  have HBB : Blk (W1.alloc (.cells #[.int .i64 0, .slice none 0 0, .slice none 0 0] 25)).drew W1.heap.size 25 #[.int .i64 0, .slice none 0 0, .slice none 0 0] := Blk.new _ _ _
                  have HUA : Below W1.heap.size W1 (W1.alloc (.cells #[.int .i64 0, .slice none 0 0, .slice none 0 0] 25)).drew := ((Below.refl _ _).alloc (Nat.le_refl _) _).drew
                  have HUD : Below W1.heap.size W1 W1.drew := (Below.refl _ _).drew
                  have HBBH := Lib.hid HBB
                  have HUAH := Lib.hid HUA
                  have HUDH := Lib.hid HUD
                  clear HBB HUA HUD
                  go_region_held3 (fun w' => w'.cell? ⟨b, 0, none⟩ = some (.int .i64 x) ∧ w'.cell? ⟨b, 1, none⟩ = some (.int .i64 y))
                    (first | (with_reducible exact ⟨y0d, y1d⟩) | (with_reducible exact ⟨u0, u1⟩) | (with_reducible exact ⟨y0a, y1a⟩) | (with_reducible exact ⟨(cell_far3 (Nat.ne_of_lt zbW1) _ _ _).trans u0, (cell_far3 (Nat.ne_of_lt zbW1) _ _ _).trans u1⟩) | go_keep)
                    (first
                      | (go_at_call 18; refine (N2.out _).mono ?_; rintro e wn ⟨B, d, B', d', rfl, ho, ht, hb⟩; have u0 : wn.cell? ⟨b, 0, none⟩ = some (.int .i64 x) := (hb.cell (p := ⟨b, 0, none⟩) (by simp; omega)).trans (by first | (with_reducible exact y0d) | (with_reducible exact y0a)); have u1 : wn.cell? ⟨b, 1, none⟩ = some (.int .i64 y) := (hb.cell (p := ⟨b, 1, none⟩) (by simp; omega)).trans (by first | (with_reducible exact y1d) | (with_reducible exact y1a)); (try have bb : Blk wn W1.heap.size 25 #[.int .i64 0, .slice none 0 0, .slice none 0 0] := (by with_reducible exact HBBH.out.next hb)); (try have bz := bb.lt); (try have t0 := bb.cell 0); (try have t1 := bb.cell 1); (try have t2 := bb.cell 2); (try have t3 := bb.frozen 0); (try have t4 := bb.frozen 1); (try have t5 := bb.frozen 2); (try simp at t0 t1 t2)))
                  · have HBX := Lib.hid (box_late (s := s) HUDH.out hb ho ht)
                    clear hb ho ht
                    go_wp2
                    go_meet
                    exact ⟨rfl, HBX.out⟩
                  · have HBX := Lib.hid (box_early (s := s) (Nat.le_refl _) HUAH.out hb bb (by simp) rfl ho ht)
                    clear hb ho ht bb t0 t1 t2 t3 t4 t5
                    go_wp2
                    go_meet
                    exact ⟨rfl, HBX.out⟩
                case rest =>
                  obtain ⟨W2, rfl⟩ : ∃ W2, W2 = wc := ⟨_, rfl⟩
                  obtain ⟨rfl, x2, B3, d3, B4, d4, rfl, hx2, ha2, ht2, hb2⟩ := hcut
                  have p0 := (X1.out.next hb2).cell 0
                  have p1 := (X1.out.next hb2).cell 1
                  have p2 := (X1.out.next hb2).cell 2
                  have q0 := hx2.cell 0
                  have q1 := hx2.cell 1
                  have q2 := hx2.cell 2
                  simp at p0 p1 p2 q0 q1 q2
                  have K2 := Lib.hid (below_next K1.out (Nat.le_refl _) hb2)
                  have A1' := Lib.hid (A1.out.next hb2)
                  have T1' := Lib.hid (T1.out.next hb2)
                  have A2 := Lib.hid ha2
                  have T2 := Lib.hid ht2
                  clear ha2 ht2 hb2 hx2 X1 A1 T1 K1 y0 y1
                  go_wp2_with (go_at_call 19; refine (sameSp_yes s B1 B2 B3 B4 nw d1' d3 n d2' d4 (fun _ => 0) (fun _ => frFree) _ A1'.out A2.out T1'.out T2.out (by omega) (by omega)).mono ?_; rintro e w4 ⟨rfl, hb4⟩; have HB4 := Lib.hid hb4; clear hb4)
                  exact ⟨⟨l + 1, by omega, by go_num, below_next K2.out (Nat.le_refl _) HB4.out⟩, by simp [intOf]; omega⟩
            · obtain rfl : l = 3 := by omega
              have K0 := Lib.hid (below_next HBP.out (Nat.le_refl _) hb)
              clear hb
              go_wp2_with (go_at_call 8; refine (awake_any _).mono ?_; rintro e w6 ⟨rfl, b6⟩; have HB6 := Lib.hid b6; clear b6)
              go_ret
              exact ⟨rfl, below_next K0.out (Nat.le_refl _) HB6.out⟩
end Go.Proofs.Ytemfiedhpohfkaa
