/-
  The walk of FrameParts.
-/
import Derived.Test.YtemfiedhpohfkaaSpoilt
import Derived.Test.YtemfiedhpohfkaaSame
import Derived.Test.YtemfiedhpohfkaaUn
import Derived.Test.YtemfiedhpohfkaaRefs
namespace Go.Proofs.Ytemfiedhpohfkaa
open Go.RowKit
set_option linter.unusedVariables false

theorem ListP.next {w w' : World} {A : Option Addr} {n c : Nat} (h : ListP w w.heap.size A n c) (hb : Below w.heap.size w w') : ListP w' w'.heap.size A n c := by
  obtain ⟨h1, h2, h3⟩ := h
  refine ⟨h1, h2, fun j hj => ?_⟩
  obtain ⟨b, o, v, e, hl, hc, hv⟩ := h3 j hj
  have := hb.size
  exact ⟨b, o, v, e, by omega, by rw [hb.cell hl]; exact hc, hv⟩

theorem below_turn {d : Nat} {a w w1 : World} (h : Below a.heap.size a w) (hG : w.grownBy w1 (some d)) (hd : a.heap.size ≤ d) : Below a.heap.size a w1 :=
  h.trans ⟨hG.os, hG.tape, hG.output, hG.size, fun i hi => hG.block i (by have := h.size; omega) (fun e => by injection e; omega)⟩

/-- The j-th space of a slice of spaces in block Q. -/
def XAt (W : World) (Q j : Nat) : Prop := ∃ (s : Int) (A : Option Addr) (nw c : Nat) (A' : Option Addr) (n c' : Nat), n ≤ 80 ∧ W.cell? ⟨Q, j * 3, none⟩ = some (.int .i64 s) ∧ W.cell? ⟨Q, j * 3 + 1, none⟩ = some (.slice A nw c) ∧ W.cell? ⟨Q, j * 3 + 2, none⟩ = some (.slice A' n c')

/-- The j-th of a slice of triples of numbers in block Q. -/
def TriAt (W : World) (Q j : Nat) : Prop := ∃ (b : Nat) (x y z : Int), b < W.heap.size ∧ W.cell? ⟨Q, j, none⟩ = some (.slice (some ⟨b, 0, none⟩) 3 3) ∧ W.cell? ⟨b, 0, none⟩ = some (.int .i64 x) ∧ W.cell? ⟨b, 1, none⟩ = some (.int .i64 y) ∧ W.cell? ⟨b, 2, none⟩ = some (.int .i64 z) ∧
  (-9223372036854775808 ≤ x ∧ x ≤ 9223372036854775807) ∧ (-9223372036854775808 ≤ y ∧ y ≤ 9223372036854775807) ∧ (-9223372036854775808 ≤ z ∧ z ≤ 9223372036854775807)

/-- What one round of the inner loop reads: the box of x and the triple p. -/
def InP (W : World) (bx bt : Nat) (s : Int) (V1 : Value) (A : Option Addr) (n c : Nat) (x y z : Int) : Prop :=
  W.cell? ⟨bx, 0, none⟩ = some (.int .i64 s) ∧ W.cell? ⟨bx, 1, none⟩ = some V1 ∧ W.cell? ⟨bx, 2, none⟩ = some (.slice A n c) ∧ W.cell? ⟨bt, 0, none⟩ = some (.int .i64 x) ∧ W.cell? ⟨bt, 1, none⟩ = some (.int .i64 y) ∧ W.cell? ⟨bt, 2, none⟩ = some (.int .i64 z) ∧ bx < W.heap.size ∧ bt < W.heap.size
theorem InP.next {W W' : World} {bx bt n c : Nat} {s x y z : Int} {V1 : Value} {A : Option Addr} (h : InP W bx bt s V1 A n c x y z) (hb : Below W.heap.size W W') : InP W' bx bt s V1 A n c x y z := by
  obtain ⟨h0, h1, h2, h3, h4, h5, h6, h7⟩ := h
  have := hb.size
  exact ⟨(hb.cell h6).trans h0, (hb.cell h6).trans h1, (hb.cell h6).trans h2, (hb.cell h7).trans h3, (hb.cell h7).trans h4, (hb.cell h7).trans h5, by omega, by omega⟩

/-- The space that the list's numbers make. -/
def MadeSp (w : World) (e : Ending) (w' : World) : Prop :=
  ∃ (k n : Nat) (A : Option Addr) (c g c' : Nat) (wd : Nat → Int) (F : Nat → Fr) (L : Value), e = .returned (.tuple #[.agg #[.int .i64 k, .slice A (n * 2 ^ k) c, .slice (some ⟨g, 0, none⟩) n c'], L]) ∧ 3 ≤ k ∧ k ≤ 4 ∧ 2 ≤ n ∧ n ≤ 10 ∧
    Own w' w.heap.size A (n * 2 ^ k) c wd ∧ OwnT w' w.heap.size (some ⟨g, 0, none⟩) n c' F ∧ Below w.heap.size w w'

set_option maxRecDepth 100000 in
set_option maxHeartbeats 4000000 in
theorem walkParts (s : Int) (A A' : Option Addr) (nw c n c' : Nat) (Al : Option Addr) (nl cl : Nat) (a f g : Int) (w : World) (hL : ListP w w.heap.size Al nl cl) (a0 : -9223372036854775808 ≤ a) (a1 : a ≤ 9223372036854775807) (f0 : -9223372036854775808 ≤ f) (f1 : f ≤ 9223372036854775807) (g0 : -9223372036854775808 ≤ g) (g1 : g ≤ 9223372036854775807) :
    Calls Try.prog 4 #[.agg #[.int .i64 s, .slice A nw c, .slice A' n c'], .slice Al nl cl, .int .i64 a, .int .i64 f, .int .i64 g] w fun e w' => e = .returned (.bool true) ∧ Below w.heap.size w w' := by
  obtain ⟨U, hU⟩ : ∃ U, U = w.alloc (.cells #[.int .i64 s, .slice A nw c, .slice A' n c'] 25) := ⟨_, rfl⟩
  have BX := Lib.hid (show Blk U w.heap.size 25 #[.int .i64 s, .slice A nw c, .slice A' n c'] by rw [hU]; exact Blk.new _ _ _)
  have hbu : Below w.heap.size w U := by rw [hU]; exact (Below.refl _ _).alloc (Nat.le_refl _) _
  have HBU := Lib.hid hbu
  have HU := Lib.hid hU
  have HL := Lib.hid (hL.next hbu)
  clear hL hU hbu
  go_enter Try.func4, Try.ntmps4
  go_wp2_with fail
  rw [← HU.out]
  refine (small_any s A A' nw c n c' U).mono ?_
  rintro e U1 ⟨rfl, hb⟩
  have BX1 := Lib.hid (BX.out.next hb)
  have HBU1 := Lib.hid (below_next HBU.out (Nat.le_refl _) hb)
  have HL1 := Lib.hid (HL.out.next hb)
  clear hb BX HBU HL HU
  obtain ⟨sm, hsm, hn⟩ : ∃ b, (decide (nw ≤ 3000) && decide (n ≤ 80)) = b ∧ (b = true → n ≤ 80) := ⟨_, rfl, by simp⟩
  rw [hsm]
  clear hsm
  rcases sm with _ | _
  · go_wp2_with (go_at_call 8; refine (awake_any _).mono ?_; rintro e w6 ⟨rfl, b6⟩; have HB6 := Lib.hid b6; clear b6)
    go_ret
    exact ⟨rfl, below_next HBU1.out (Nat.le_refl _) HB6.out⟩
  · have hn80 := hn rfl
    clear hn
    go_wp2_with fail
    refine (deck_any Al nl cl U1 HL1.out).mono ?_
    rintro e U2 ⟨rfl, hd, hb, hz⟩
    have HD := Lib.hid hd
    have BX2 := Lib.hid (BX1.out.next hb)
    have HBU2 := Lib.hid (below_next HBU1.out (Nat.le_refl _) hb)
    have zz := BX1.out.lt
    clear hd hb BX1 HBU1 HL1
    go_wp2_with fail
    refine (space_any U1.heap.size U2 HD.out).mono ?_
    rintro e U3 ⟨k, m, B, d, gb, d', wd, F, L, rfl, k0, k1, m0, m1, _, _, _, _, hG⟩
    have BX3 := Lib.hid (BX2.out.turn hG (by omega))
    have HBU3 := Lib.hid (below_turn HBU2.out hG (by omega))
    clear hG BX2 HBU2 HD hz
    go_wp2_with fail
    obtain ⟨V, hV⟩ : ∃ V, V = U3.alloc (.cells #[.int .i64 k, .slice B (m * 2 ^ k) d, .slice (some ⟨gb, 0, none⟩) m d'] 25) := ⟨_, rfl⟩
    have hbv : Below U3.heap.size U3 V := by rw [hV]; exact (Below.refl _ _).alloc (Nat.le_refl _) _
    have BY := Lib.hid (show Blk V U3.heap.size 25 #[.int .i64 k, .slice B (m * 2 ^ k) d, .slice (some ⟨gb, 0, none⟩) m d'] by rw [hV]; exact Blk.new _ _ _)
    have BX4 := Lib.hid (BX3.out.next hbv)
    have HBV := Lib.hid (below_next HBU3.out (Nat.le_refl _) hbv)
    rw [← hV]
    clear hV hbv BX3 HBU3
    have p0 := BX4.out.cell 0
    have p1 := BX4.out.cell 1
    have p2 := BX4.out.cell 2
    have q0 := BY.out.cell 0
    have q1 := BY.out.cell 1
    have q2 := BY.out.cell 2
    simp at p0 p1 p2 q0 q1 q2
    obtain ⟨y, hy, y1⟩ : ∃ y : Nat, f % 70 = y ∧ y < 70 := ⟨(f % 70).toNat, by omega, by omega⟩
    have HY := Lib.hid hy
    clear hy
    obtain ⟨i0, hi0, hz0, hz1, hz2⟩ := info_parts frame_info
    have hmk := fun W => run_make_rowN (P := Try.prog) 23 53 i0 _ Try.underlying23 hi0 hz0 .i64 .i64 y y (Nat.le_refl _) (by rw [hz2]; omega) (by omega) W
    rw [hz1] at hmk
    have HMK := Lib.hid hmk
    clear hi0 hz0 hz1 hz2
    have hmk2 : ∀ W : World, (Instr.makeSlice 23 (.int .i64 (y : Int)) (.int .i64 (y : Int))).run Try.prog W = _ := HMK.out
    go_upto_region 4 with fail
    go_region_held3 (fun w' => w'.cell? ⟨w.heap.size, 0, none⟩ = some (.int .i64 s) ∧ w'.cell? ⟨w.heap.size, 1, none⟩ = some (.slice A nw c) ∧ w'.cell? ⟨w.heap.size, 2, none⟩ = some (.slice A' n c') ∧
        w'.cell? ⟨U3.heap.size, 0, none⟩ = some (.int .i64 k) ∧ w'.cell? ⟨U3.heap.size, 1, none⟩ = some (.slice B (m * 2 ^ k) d) ∧ w'.cell? ⟨U3.heap.size, 2, none⟩ = some (.slice (some ⟨gb, 0, none⟩) m d'))
      (first | exact ⟨p0, p1, p2, q0, q1, q2⟩ | go_keep)
      (first | (go_at_call 16; refine (mod_any f 70 (by omega) (by omega) f0 f1 _).mono ?_; rintro e w' ⟨rfl, rfl⟩; rw [HY.out]))
    obtain ⟨W, hW⟩ : ∃ W, W = ((V.alloc (.cells (madeCells #[.int .i64 0, .int .i64 0, .int .i64 0] (y * 3)) 53)).alloc (.cells #[.int .i64 s, .slice A nw c, .slice A' n c', .int .i64 k, .slice B (m * 2 ^ k) d, .slice (some ⟨gb, 0, none⟩) m d', .int .i64 k, .slice none 0 0, .slice (some ⟨V.heap.size, 0, none⟩) y y] 25)).drew := ⟨_, rfl⟩
    have hq : Blk W (V.heap.size + 1) 25 #[.int .i64 s, .slice A nw c, .slice A' n c', .int .i64 k, .slice B (m * 2 ^ k) d, .slice (some ⟨gb, 0, none⟩) m d', .int .i64 k, .slice none 0 0, .slice (some ⟨V.heap.size, 0, none⟩) y y] := by rw [hW]; exact Blk.newAt _ _ _ _ (by simp)
    have HW := Lib.hid (show Below w.heap.size w W by rw [hW]; exact ((HBV.out.alloc HBV.out.size _).alloc (by have := HBV.out.size; simp; omega) _).drew)
    have HX : Hid (∀ j, j < 3 → XAt W (V.heap.size + 1) j) := by
      intro j hj
      rcases (by omega : j = 0 ∨ j = 1 ∨ j = 2) with e | e | e <;> subst e
      · exact ⟨s, A, nw, c, A', n, c', hn80, hq.cell 0, hq.cell 1, hq.cell 2⟩
      · exact ⟨k, B, _, d, _, m, d', by omega, hq.cell 3, hq.cell 4, hq.cell 5⟩
      · exact ⟨k, none, 0, 0, _, y, y, by omega, hq.cell 6, hq.cell 7, hq.cell 8⟩
    have zq : V.heap.size + 1 < W.heap.size := hq.lt
    rw [← hW]
    clear hW hq p0 p1 p2 q0 q1 q2 hmk2 HMK HY BX4 BY HBV
    go_wp2_with fail
    go_loopw [58] (fun i wr => ∃ j : Nat, j ≤ 3 ∧ i = .int .i64 j ∧ Below W.heap.size W wr) (fun i _ => 3 - (intOf i).toNat)
    case atStart => exact ⟨0, Nat.zero_le _, rfl, Below.refl _ _⟩
    case round =>
      obtain ⟨R, rfl⟩ : ∃ R, R = wr := ⟨_, rfl⟩
      obtain ⟨j, hj, rfl, hb⟩ := hrel
      by_cases hlt : j < 3
      · obtain ⟨s, A, nw, c, A', n, c', hn, x0, x1, x2⟩ := HX.out j hlt
        have zr : W.heap.size ≤ R.heap.size := hb.size
        have x0' := (hb.cell (p := ⟨V.heap.size + 1, j * 3, none⟩) zq).trans x0
        have x1' := (hb.cell (p := ⟨V.heap.size + 1, j * 3 + 1, none⟩) zq).trans x1
        have x2' := (hb.cell (p := ⟨V.heap.size + 1, j * 3 + 2, none⟩) zq).trans x2
        have HB := Lib.hid hb
        clear hb x0 x1 x2
        have hj2 : 0 ≤ (j : Int) ∧ (j : Int) < 3 := by omega
        have s1 : IntKind.i64.wrap ((n : Int) * 16) = (n : Int) * 16 := IntWalk.i64_in _ (by omega)
        have s2 : IntKind.i64.wrap ((n : Int) * 16 + 3) = (n : Int) * 16 + 3 := IntWalk.i64_in _ (by omega)
        have s3 : IntKind.i64.wrap ((n : Int) + 2) = (n : Int) + 2 := IntWalk.i64_in _ (by omega)
        have e0 := Int.emod_nonneg a (show (n : Int) * 16 + 3 ≠ 0 by omega)
        have e1 := Int.emod_lt_of_pos a (show 0 < (n : Int) * 16 + 3 by omega)
        have e2 := Int.emod_nonneg f (show (n : Int) + 2 ≠ 0 by omega)
        have e3 := Int.emod_lt_of_pos f (show 0 < (n : Int) + 2 by omega)
        have e4 := Int.emod_nonneg g (show (n : Int) + 2 ≠ 0 by omega)
        have e5 := Int.emod_lt_of_pos g (show 0 < (n : Int) + 2 by omega)
        obtain ⟨ya, hya⟩ : ∃ ya, ya = a % ((n : Int) * 16 + 3) := ⟨_, rfl⟩
        obtain ⟨yf, hyf⟩ : ∃ yf, yf = f % ((n : Int) + 2) := ⟨_, rfl⟩
        obtain ⟨yg, hyg⟩ : ∃ yg, yg = g % ((n : Int) + 2) := ⟨_, rfl⟩
        have HYA := Lib.hid hya
        have HYF := Lib.hid hyf
        have HYG := Lib.hid hyg
        rw [← hya] at e0 e1
        rw [← hyf] at e2 e3
        rw [← hyg] at e4 e5
        clear hya hyf hyg
        have s4 : IntKind.i64.wrap (ya - 1) = ya - 1 := IntWalk.i64_in _ (by omega)
        have s5 : IntKind.i64.wrap (yf - 1) = yf - 1 := IntWalk.i64_in _ (by omega)
        have s6 : IntKind.i64.wrap (yg - 1) = yg - 1 := IntWalk.i64_in _ (by omega)
        go_wp2_with (go_at_call 16; refine (mod_any _ _ (by omega) (by omega) (by omega) (by omega) _).mono ?_; rintro e w' ⟨rfl, rfl⟩; first | rw [← HYA.out] | rw [← HYF.out] | rw [← HYG.out])
        obtain ⟨P, hP⟩ : ∃ P, P = (((R.alloc (.cells #[.int .i64 s, .slice A nw c, .slice A' n c'] 25)).alloc (.cells #[.int .i64 a, .int .i64 f, .int .i64 g] 3)).alloc (.cells #[.int .i64 (ya - 1), .int .i64 (yf - 1), .int .i64 (yg - 1)] 3)).alloc (.cells #[.slice (some ⟨R.heap.size + 1, 0, none⟩) 3 3, .slice (some ⟨R.heap.size + 1 + 1, 0, none⟩) 3 3] 26) := ⟨_, rfl⟩
        have hz4 : R.heap.size + 3 < P.heap.size := by subst hP; simp
        have b0 : Blk P R.heap.size 25 #[.int .i64 s, .slice A nw c, .slice A' n c'] := by rw [hP]; exact (((Blk.new _ _ _).alloc _).alloc _).alloc _
        have b1 : Blk P (R.heap.size + 1) 3 #[.int .i64 a, .int .i64 f, .int .i64 g] := by rw [hP]; exact ((Blk.newAt _ _ _ _ (by simp)).alloc _).alloc _
        have b2 : Blk P (R.heap.size + 1 + 1) 3 #[.int .i64 (ya - 1), .int .i64 (yf - 1), .int .i64 (yg - 1)] := by rw [hP]; exact (Blk.newAt _ _ _ _ (by simp)).alloc _
        have b3 : Blk P (R.heap.size + 1 + 1 + 1) 26 #[.slice (some ⟨R.heap.size + 1, 0, none⟩) 3 3, .slice (some ⟨R.heap.size + 1 + 1, 0, none⟩) 3 3] := by rw [hP]; exact Blk.newAt _ _ _ _ (by simp)
        have HT : Hid (∀ l, l < 2 → TriAt P (R.heap.size + 1 + 1 + 1) l) := by
          intro l hl
          rcases (by omega : l = 0 ∨ l = 1) with e | e <;> subst e
          · exact ⟨_, a, f, g, b1.lt, b3.cell 0, b1.cell 0, b1.cell 1, b1.cell 2, ⟨a0, a1⟩, ⟨f0, f1⟩, ⟨g0, g1⟩⟩
          · exact ⟨_, _, _, _, b2.lt, b3.cell 1, b2.cell 0, b2.cell 1, b2.cell 2, by omega, by omega, by omega⟩
        have HBX := Lib.hid b0
        have HBP := Lib.hid (show Below R.heap.size R P by rw [hP]; exact ((((Below.refl _ _).alloc (Nat.le_refl _) _).alloc (by simp) _).alloc (by simp; omega) _).alloc (by simp; omega) _)
        rw [← hP]
        clear hP b0 b1 b2 b3 HYA HYF HYG e0 e1 e2 e3 e4 e5 s1 s2 s3 s4 s5 s6 x0' x1' x2'
        go_loopw [88] (fun i wr2 => ∃ l : Nat, l ≤ 2 ∧ i = .int .i64 l ∧ Below P.heap.size P wr2) (fun i _ => 2 - (intOf i).toNat)
        case atStart => exact ⟨0, Nat.zero_le _, rfl, Below.refl _ _⟩
        case round =>
        obtain ⟨W0, rfl⟩ : ∃ W0, W0 = wr := ⟨_, rfl⟩
        obtain ⟨l, hl, rfl, hb⟩ := hrel
        by_cases hll : l < 2
        · obtain ⟨b, x, y, z, zb, t0, t1, t2, t3, hx, hy, hz⟩ := HT.out l hll
          have zr2 : P.heap.size ≤ W0.heap.size := hb.size
          have t0' := (hb.cell (p := ⟨R.heap.size + 1 + 1 + 1, l, none⟩) (show R.heap.size + 1 + 1 + 1 < P.heap.size by omega)).trans t0
          have I0 := Lib.hid (show InP W0 R.heap.size b s (.slice A nw c) A' n c' x y z from ⟨(HBX.out.next hb).cell 0, (HBX.out.next hb).cell 1, (HBX.out.next hb).cell 2, (hb.cell zb).trans t1, (hb.cell zb).trans t2, (hb.cell zb).trans t3, by omega, by omega⟩)
          have K0 := Lib.hid hb
          clear hb t0 t1 t2 t3
          have hl2 : 0 ≤ (l : Int) ∧ (l : Int) < 2 := by omega
          go_wp2_with fail
          clear t0'
          obtain ⟨x0, x1, x2, y0, y1, y2, zx, zt⟩ := I0.out
          have I0d : Hid (InP W0.drew R.heap.size b s (.slice A nw c) A' n c' x y z) := I0.out
          go_wp2_with fail
          go_region_held3 (fun w' => w'.cell? ⟨R.heap.size, 0, none⟩ = some (.int .i64 s) ∧ w'.cell? ⟨R.heap.size, 1, none⟩ = some (.slice A nw c) ∧ w'.cell? ⟨R.heap.size, 2, none⟩ = some (.slice A' n c') ∧ w'.cell? ⟨b, 0, none⟩ = some (.int .i64 x) ∧ w'.cell? ⟨b, 1, none⟩ = some (.int .i64 y) ∧ w'.cell? ⟨b, 2, none⟩ = some (.int .i64 z))
            (first | exact ⟨x0, x1, x2, y0, y1, y2⟩ | exact ⟨u0, u1, u2, u3, u4, u5⟩)
            (first | (go_at_call 20; refine (of_any s _ A' n c' x _ hx.1 hx.2).mono ?_; rintro e W1 ⟨rfl, hb⟩; obtain ⟨u0, u1, u2, u3, u4, u5, _, _⟩ := I0d.out.next hb))
          have I1 := Lib.hid (I0d.out.next hb)
          have K1 := Lib.hid (below_next K0.out.drew (Nat.le_refl _) hb)
          clear x0 x1 x2 y0 y1 y2 zx zt u0 u1 u2 u3 u4 u5 hb I0 I0d K0
          obtain ⟨x0, x1, x2, y0, y1, y2, zx, zt⟩ := I1.out
          have I1d : Hid (InP W1.drew R.heap.size b s (.slice A nw c) A' n c' x y z) := I1.out
          go_wp2_with fail
          go_region_held3 (fun w' => w'.cell? ⟨R.heap.size, 0, none⟩ = some (.int .i64 s) ∧ w'.cell? ⟨R.heap.size, 1, none⟩ = some (.slice A nw c) ∧ w'.cell? ⟨R.heap.size, 2, none⟩ = some (.slice A' n c') ∧ w'.cell? ⟨b, 0, none⟩ = some (.int .i64 x) ∧ w'.cell? ⟨b, 1, none⟩ = some (.int .i64 y) ∧ w'.cell? ⟨b, 2, none⟩ = some (.int .i64 z))
            (first | exact ⟨x0, x1, x2, y0, y1, y2⟩ | exact ⟨u0, u1, u2, u3, u4, u5⟩)
            (first | (go_at_call 21; refine (refOf_any s _ A' n c' x _ hx.1 hx.2).mono ?_; rintro e W2 ⟨rfl, hb⟩; obtain ⟨u0, u1, u2, u3, u4, u5, _, _⟩ := I1d.out.next hb))
          have I2 := Lib.hid (I1d.out.next hb)
          have K2 := Lib.hid (below_next K1.out.drew (Nat.le_refl _) hb)
          clear x0 x1 x2 y0 y1 y2 zx zt u0 u1 u2 u3 u4 u5 hb I1 I1d K1
          obtain ⟨x0, x1, x2, y0, y1, y2, zx, zt⟩ := I2.out
          have I2d : Hid (InP W2.drew R.heap.size b s (.slice A nw c) A' n c' x y z) := I2.out
          go_wp2_with fail
          go_region_held3 (fun w' => w'.cell? ⟨R.heap.size, 0, none⟩ = some (.int .i64 s) ∧ w'.cell? ⟨R.heap.size, 1, none⟩ = some (.slice A nw c) ∧ w'.cell? ⟨R.heap.size, 2, none⟩ = some (.slice A' n c') ∧ w'.cell? ⟨b, 0, none⟩ = some (.int .i64 x) ∧ w'.cell? ⟨b, 1, none⟩ = some (.int .i64 y) ∧ w'.cell? ⟨b, 2, none⟩ = some (.int .i64 z))
            (first | exact ⟨x0, x1, x2, y0, y1, y2⟩ | exact ⟨u0, u1, u2, u3, u4, u5⟩)
            (first | (go_at_call 22; refine (base_any s _ A' n c' y _).mono ?_; rintro e W3 ⟨rfl, hb⟩; obtain ⟨u0, u1, u2, u3, u4, u5, _, _⟩ := I2d.out.next hb))
          have I3 := Lib.hid (I2d.out.next hb)
          have K3 := Lib.hid (below_next K2.out.drew (Nat.le_refl _) hb)
          clear x0 x1 x2 y0 y1 y2 zx zt u0 u1 u2 u3 u4 u5 hb I2 I2d K2
          obtain ⟨x0, x1, x2, y0, y1, y2, zx, zt⟩ := I3.out
          have I3d : Hid (InP W3.drew R.heap.size b s (.slice A nw c) A' n c' x y z) := I3.out
          go_wp2_with fail
          go_region_held3 (fun w' => w'.cell? ⟨R.heap.size, 0, none⟩ = some (.int .i64 s) ∧ w'.cell? ⟨R.heap.size, 1, none⟩ = some (.slice A nw c) ∧ w'.cell? ⟨R.heap.size, 2, none⟩ = some (.slice A' n c') ∧ w'.cell? ⟨b, 0, none⟩ = some (.int .i64 x) ∧ w'.cell? ⟨b, 1, none⟩ = some (.int .i64 y) ∧ w'.cell? ⟨b, 2, none⟩ = some (.int .i64 z))
            (first | exact ⟨x0, x1, x2, y0, y1, y2⟩ | exact ⟨u0, u1, u2, u3, u4, u5⟩)
            (first | (go_at_call 23; refine (refBase_any s _ A' n c' y _ hy.1 hy.2).mono ?_; rintro e W4 ⟨rfl, hb⟩; obtain ⟨u0, u1, u2, u3, u4, u5, _, _⟩ := I3d.out.next hb))
          have I4 := Lib.hid (I3d.out.next hb)
          have K4 := Lib.hid (below_next K3.out.drew (Nat.le_refl _) hb)
          clear x0 x1 x2 y0 y1 y2 zx zt u0 u1 u2 u3 u4 u5 hb I3 I3d K3
          obtain ⟨x0, x1, x2, y0, y1, y2, zx, zt⟩ := I4.out
          have I4d : Hid (InP W4.drew R.heap.size b s (.slice A nw c) A' n c' x y z) := I4.out
          go_wp2_with fail
          go_region_held3 (fun w' => w'.cell? ⟨R.heap.size, 0, none⟩ = some (.int .i64 s) ∧ w'.cell? ⟨R.heap.size, 1, none⟩ = some (.slice A nw c) ∧ w'.cell? ⟨R.heap.size, 2, none⟩ = some (.slice A' n c') ∧ w'.cell? ⟨b, 0, none⟩ = some (.int .i64 x) ∧ w'.cell? ⟨b, 1, none⟩ = some (.int .i64 y) ∧ w'.cell? ⟨b, 2, none⟩ = some (.int .i64 z))
            (first | exact ⟨x0, x1, x2, y0, y1, y2⟩ | exact ⟨u0, u1, u2, u3, u4, u5⟩)
            (first | (go_at_call 24; refine (pair_any s _ A' n c' y z _).mono ?_; rintro e W5 ⟨rfl, hb⟩; obtain ⟨u0, u1, u2, u3, u4, u5, _, _⟩ := I4d.out.next hb))
          have I5 := Lib.hid (I4d.out.next hb)
          have K5 := Lib.hid (below_next K4.out.drew (Nat.le_refl _) hb)
          clear x0 x1 x2 y0 y1 y2 zx zt u0 u1 u2 u3 u4 u5 hb I4 I4d K4
          obtain ⟨x0, x1, x2, y0, y1, y2, zx, zt⟩ := I5.out
          have I5d : Hid (InP W5.drew R.heap.size b s (.slice A nw c) A' n c' x y z) := I5.out
          go_wp2_with fail
          go_region_held3 (fun w' => w'.cell? ⟨R.heap.size, 0, none⟩ = some (.int .i64 s) ∧ w'.cell? ⟨R.heap.size, 1, none⟩ = some (.slice A nw c) ∧ w'.cell? ⟨R.heap.size, 2, none⟩ = some (.slice A' n c') ∧ w'.cell? ⟨b, 0, none⟩ = some (.int .i64 x) ∧ w'.cell? ⟨b, 1, none⟩ = some (.int .i64 y) ∧ w'.cell? ⟨b, 2, none⟩ = some (.int .i64 z))
            (first | exact ⟨x0, x1, x2, y0, y1, y2⟩ | exact ⟨u0, u1, u2, u3, u4, u5⟩)
            (first | (go_at_call 25; refine (refPair_any s _ A' n c' y z _ hy.1 hy.2 hz.1 hz.2).mono ?_; rintro e W6 ⟨rfl, hb⟩; obtain ⟨u0, u1, u2, u3, u4, u5, _, _⟩ := I5d.out.next hb))
          have I6 := Lib.hid (I5d.out.next hb)
          have K6 := Lib.hid (below_next K5.out.drew (Nat.le_refl _) hb)
          clear x0 x1 x2 y0 y1 y2 zx zt u0 u1 u2 u3 u4 u5 hb I5 I5d K5
          obtain ⟨x0, x1, x2, y0, y1, y2, zx, zt⟩ := I6.out
          have I6d : Hid (InP W6.drew R.heap.size b s (.slice A nw c) A' n c' x y z) := I6.out
          go_wp2_with fail
          go_region_held3 (fun w' => w'.cell? ⟨R.heap.size, 0, none⟩ = some (.int .i64 s) ∧ w'.cell? ⟨R.heap.size, 1, none⟩ = some (.slice A nw c) ∧ w'.cell? ⟨R.heap.size, 2, none⟩ = some (.slice A' n c') ∧ w'.cell? ⟨b, 0, none⟩ = some (.int .i64 x) ∧ w'.cell? ⟨b, 1, none⟩ = some (.int .i64 y) ∧ w'.cell? ⟨b, 2, none⟩ = some (.int .i64 z))
            (first | exact ⟨x0, x1, x2, y0, y1, y2⟩ | exact ⟨u0, u1, u2, u3, u4, u5⟩)
            (first | (go_at_call 26; refine (unpair_any s _ A' n c' x _ hx.1 hx.2).mono ?_; rintro e W7 ⟨rfl, hb⟩; obtain ⟨u0, u1, u2, u3, u4, u5, _, _⟩ := I6d.out.next hb))
          have I7 := Lib.hid (I6d.out.next hb)
          have K7 := Lib.hid (below_next K6.out.drew (Nat.le_refl _) hb)
          clear x0 x1 x2 y0 y1 y2 zx zt u0 u1 u2 u3 u4 u5 hb I6 I6d K6
          obtain ⟨x0, x1, x2, y0, y1, y2, zx, zt⟩ := I7.out
          have I7d : Hid (InP W7.drew R.heap.size b s (.slice A nw c) A' n c' x y z) := I7.out
          go_wp2_with fail
          go_region_held3 (fun w' => w'.cell? ⟨R.heap.size, 0, none⟩ = some (.int .i64 s) ∧ w'.cell? ⟨R.heap.size, 1, none⟩ = some (.slice A nw c) ∧ w'.cell? ⟨R.heap.size, 2, none⟩ = some (.slice A' n c') ∧ w'.cell? ⟨b, 0, none⟩ = some (.int .i64 x) ∧ w'.cell? ⟨b, 1, none⟩ = some (.int .i64 y) ∧ w'.cell? ⟨b, 2, none⟩ = some (.int .i64 z))
            (first | exact ⟨x0, x1, x2, y0, y1, y2⟩ | exact ⟨u0, u1, u2, u3, u4, u5⟩)
            (first | (go_at_call 27; refine (refUnpair_any s _ A' n c' x _ hx.1 hx.2 (by omega)).mono ?_; rintro e W8 ⟨rfl, hb⟩; obtain ⟨u0, u1, u2, u3, u4, u5, _, _⟩ := I7d.out.next hb))
          have I8 := Lib.hid (I7d.out.next hb)
          have K8 := Lib.hid (below_next K7.out.drew (Nat.le_refl _) hb)
          clear x0 x1 x2 y0 y1 y2 zx zt u0 u1 u2 u3 u4 u5 hb I7 I7d K7
          go_wp2_with fail
          exact ⟨⟨l + 1, by omega, by go_num, K8.out⟩, by simp [intOf]; omega⟩
        · obtain rfl : l = 2 := by omega
          have K0 := Lib.hid (below_next (below_next HB.out (Nat.le_refl _) HBP.out) (Nat.le_refl _) hb)
          clear hb
          go_wp2_with fail
          exact ⟨⟨j + 1, by omega, by go_num, K0.out⟩, by simp [intOf]; omega⟩
      · obtain rfl : j = 3 := by omega
        have HB := Lib.hid (below_next HW.out (Nat.le_refl _) hb)
        clear hb
        go_wp2_with (go_at_call 8; refine (awake_any _).mono ?_; rintro e w6 ⟨rfl, b6⟩; have HB6 := Lib.hid b6; clear b6)
        go_ret
        exact ⟨rfl, below_next HB.out (Nat.le_refl _) HB6.out⟩
end Go.Proofs.Ytemfiedhpohfkaa
