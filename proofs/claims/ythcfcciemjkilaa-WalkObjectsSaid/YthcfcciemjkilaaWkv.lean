/-
  Contracts of package walk: the closure of Objects, eachObject with it.
-/
import Derived.Test.YthcfcciemjkilaaWkc
import Derived.Test.YthcfcciemjkilaaMPool
namespace Go.Proofs.Ythcfcciemjkilaa
open Go.RowKit
set_option maxRecDepth 100000
set_option linter.unusedVariables false

theorem Turn2.next {x g : Nat} {w w' w'' : World} (h : Turn2 x g w w') (hb : Below w'.heap.size w' w'') : Turn2 x g w w'' :=
  ⟨hb.os.trans h.os, hb.tape.trans h.tape, hb.output.trans h.output, Nat.le_trans h.size hb.size, fun b hlt h1 h2 => (hb.block b (Nat.lt_of_lt_of_le hlt h.size)).trans (h.block b hlt h1 h2)⟩
theorem Turn2.grown {x g : Nat} {w w' w'' : World} {row : Option Nat} (h : Turn2 x g w w') (hb : w'.grownBy w'' row) (hr : ∀ k, row = some k → w.heap.size ≤ k) : Turn2 x g w w'' :=
  ⟨hb.os.trans h.os, hb.tape.trans h.tape, hb.output.trans h.output, Nat.le_trans h.size hb.size, fun b hlt h1 h2 => (hb.block b (Nat.lt_of_lt_of_le hlt h.size) (fun e => by have := hr b e.symm; omega)).trans (h.block b hlt h1 h2)⟩
theorem row_set {w : World} {B n x i : Nat} {v : Value} {xs : List Value} {t : TypeId} (h : w.ownsRow B t 1 v n xs) (hx : x < B) (u : Value) : (w.setCell ⟨x, i, none⟩ u).ownsRow B t 1 v n xs :=
  ownsRow_keep h fun g _ hg _ => Below.heap_setCell w ⟨x, i, none⟩ u g (show g ≠ x by omega)
/-- What the closure of Objects keeps: the addresses in the box xa, the words left in the box xl; w0: the world before. -/
def VisAt (w0 : World) (xa xl : Nat) (l : List Nat) (lf : Int) (W : World) : Prop :=
  ∃ v, Blk W xa 28 #[v] ∧ W.ownsRow w0.heap.size 3 1 v l.length (numL l) ∧ Blk W xl 3 #[.int .i64 lf] ∧ Turn2 xa xl w0 W
theorem VisAt.next {w0 W W' : World} {xa xl : Nat} {l : List Nat} {lf : Int} (h : VisAt w0 xa xl l lf W) (hb : Below W.heap.size W W') : VisAt w0 xa xl l lf W' := by
  obtain ⟨v, h1, h2, h3, h4⟩ := h
  exact ⟨v, h1.next hb, ownsRow_below8 h2 hb, h3.next hb, h4.next hb⟩
set_option maxHeartbeats 2000000 in
theorem visit_any (w0 W : World) (xa xl : Nat) (l : List Nat) (lf : Int) (a : Nat) (sz : Int) (h : VisAt w0 xa xl l lf W) (hne : xa ≠ xl) (hxa : xa < w0.heap.size) (hxl : xl < w0.heap.size) (hl : l.length ≤ 20000) (hlf : 0 ≤ lf ∧ lf ≤ 20000) (hsz : 0 ≤ sz ∧ sz ≤ 100) :
    Calls Try.prog 28 #[.int .i64 a, .int .i64 sz, .pointer (some ⟨xa, 0, none⟩), .pointer (some ⟨xl, 0, none⟩)] W fun e W' => e = .returned (.bool (decide (sz < lf))) ∧ VisAt w0 xa xl (l ++ [a]) (lf - sz) W' := by
  obtain ⟨i0, hi0, hz0, hz1, hz2⟩ := info_parts int_info
  obtain ⟨v, b1, b2, b3, b4⟩ := h
  obtain ⟨A0, c0, rfl, hc0⟩ := row_slice b2
  have zz := b4.size
  have p0 := b1.cell 0
  have pf := b1.frozen 0
  have pz := b1.lt
  simp at p0
  have hob := row_block b2
  have B1 := Lib.hid b1
  have HOW := Lib.hid b2
  have B3 := Lib.hid b3
  have B4 := Lib.hid b4
  have s1 : wrap64 (lf - sz) = lf - sz := IntWalk.wrap64_in _ ⟨by omega, by omega⟩
  clear b1 b2 b3 b4
  go_enter Try.func28, Try.ntmps28
  go_wp2_with (at_builtin; refine wpList_append_own _ rfl _ _ 28 rfl w0.heap.size 3 i0 (.int .i64 0) 1 8 Try.underlying28 hi0 hz0 hz1 hz2 rfl (by decide) _ l.length (numL l) rfl (HOW.out.alloc _) ⟨W.heap.size, 0, none⟩ 1 1 [.int .i64 a] rfl rfl ?c1 (by simp [Value.oneCell']) (by simp only [maxLen]; omega) (by omega) ?c5 ?_)
  case c1 => exact one_news (by go_simp)
  case c5 => simp; omega
  intro v' w1 hown' hgrow _
  have e1 : numL l ++ [.int .i64 a] = numL (l ++ [a]) := by simp [numL]
  have e2 : l.length + 1 = (l ++ [a]).length := by simp
  rw [e1] at hown'
  obtain ⟨A1, c1', rfl, _⟩ := row_slice hown'
  have hbu : Below W.heap.size W (W.alloc (.cells #[.int .i64 a] 3)) := (Below.refl _ _).alloc (Nat.le_refl _) _
  have hBa := Lib.hid ((B1.out.next hbu).row hgrow (fun e => by have := hob _ e; omega))
  have hBl := Lib.hid ((B3.out.next hbu).row hgrow (fun e => by have := hob _ e; omega))
  have hT := Lib.hid ((B4.out.next hbu).grown hgrow hob)
  have HOW1 := Lib.hid (show w1.ownsRow w0.heap.size 3 1 (.slice A1 (l.length + 1) c1') (l ++ [a]).length (numL (l ++ [a])) by rw [← e2]; exact hown')
  have zw1 := hgrow.size
  clear hown' hgrow hbu e1 e2 p0 pf pz B1 B3 B4
  have q0 := hBa.out.frozen 0
  have qa := hBa.out.cell 0
  have q1 := hBl.out.cell 0
  have qf := hBl.out.frozen 0
  have qz := hBa.out.lt
  have qy := hBl.out.lt
  simp at q1 qa
  have hne2 : xl ≠ xa := fun e => hne e.symm
  go_wp2_with fail
  go_ret
  exact ⟨rfl, _, (hBa.out.set_ 0 _).far hne _, row_set (row_set HOW1.out hxa _) hxl _, (hBl.out.far hne2 _).set_ 0 _, (hT.out.setx 0 _).setg 0 _⟩

theorem Turn2.pre {x g : Nat} {w w' w'' : World} (hb : Below w.heap.size w w') (h : Turn2 x g w' w'') : Turn2 x g w w'' :=
  ⟨h.os.trans hb.os, h.tape.trans hb.tape, h.output.trans hb.output, Nat.le_trans hb.size h.size, fun b hlt h1 h2 => (h.block b (Nat.lt_of_lt_of_le hlt hb.size) h1 h2).trans (hb.block b hlt)⟩
theorem VisAt.pre {w0 U W : World} {xa xl : Nat} {l : List Nat} {lf : Int} (hb : Below w0.heap.size w0 U) (h : VisAt U xa xl l lf W) : VisAt w0 xa xl l lf W := by
  obtain ⟨v, h1, h2, h3, h4⟩ := h
  refine ⟨v, h1, ?_, h3, h4.pre hb⟩
  obtain ⟨hl, h2⟩ := h2
  refine ⟨hl, ?_⟩
  rcases h2 with h2 | ⟨g, cap, cur, rfl, hB, hg, h2⟩
  · exact .inl h2
  · exact .inr ⟨g, cap, cur, rfl, Nat.le_trans hb.size hB, hg, h2⟩
/-- How many words are left. -/
def leftOf (xl : Nat) (w : World) : Nat := match w.cell? ⟨xl, 0, none⟩ with
  | some v => (intOf v).toNat
  | none => 0
theorem leftOf_at {xl : Nat} {w : World} {x : Int} (h : Blk w xl 3 #[.int .i64 x]) : leftOf xl w = x.toNat := by
  have p := h.cell 0
  simp at p
  unfold leftOf
  rw [p]
  simp [intOf]
/-- What eachObject leaves for the closure of Objects. -/
def EachOut (K : Nat) (wd : Nat → Int) (F : Nat → Fr) (p : Int) (W : Nat) (w : World) (xa xl : Nat) (e : Ending) (w' : World) : Prop :=
  (∃ v, e = .returned v) ∧ ∃ (j : Nat) (lf : Int), VisAt w xa xl (lstN K wd F p j) lf w' ∧ lf = (W : Int) - posN K wd F p j ∧ ((Hds K wd F p j ∧ posN K wd F p j = W) ∨ (posN K wd F p j ≠ W ∧ ObjsR K wd F p W [] 12))
set_option maxHeartbeats 4000000 in
theorem each_any (K : Nat) (A A' : Option Addr) (nw c n c' : Nat) (wd : Nat → Int) (F : Nat → Fr) (p m W xa xl : Nat) (w : World) (hA : ∀ W', Turn2 xa xl w W' → Arr W' W'.heap.size A nw c wd) (hT : ∀ W', Turn2 xa xl w W' → Tab W' W'.heap.size A' n c' F)
    (hv : ValidP K nw wd n F) (hu : U64w nw wd) (hp : p < n) (ho : (F p).ow ≠ -1) (hl : LenP F p m) (hW : W ≤ m * 2 ^ K) (hm : m ≤ n + 1) (hW0 : 0 < W) (hWn : W ≤ nw) (ba : Blk w xa 28 #[.slice none 0 0]) (bl : Blk w xl 3 #[.int .i64 W]) (hne : xa ≠ xl) :
    Calls Try.prog 26 #[.agg #[.int .i64 K, .slice A nw c, .slice A' n c'], .int .i64 p, .func (.func 28) #[] #[.pointer (some ⟨xa, 0, none⟩), .pointer (some ⟨xl, 0, none⟩)]] w (EachOut K wd F p W w xa xl) := by
  obtain ⟨n2, n64, nw0, nw1⟩ := sp_bounds hv
  obtain ⟨_, k8⟩ := shB_yes hv.1
  have hp2 := prod_bd (n := p) (k := K) (by omega) (by omega)
  have HNX := Lib.hid (fun (j Q x : Nat) (h1 : posN K wd F p j = Q) (h2 : Q < W) (h3 : addrP F K p Q = x) => next_shape hv hu hp ho hl hW h1 h2 h3)
  have HADR := Lib.hid (fun (Q : Nat) (h : Q < W) => addr_in hv hp ho hl (show Q < m * 2 ^ K by omega))
  have HLOC := Lib.hid (show ∀ (Q q r sz : Nat) (W' : World), Q + sz < W → iter F (Q / 2 ^ K) p = q → Q % 2 ^ K = r → q < n → Tab W' W'.heap.size A' n c' F → ∃ q' r' : Nat, q' < n ∧ iter F ((Q + sz) / 2 ^ K) p = q' ∧ (Q + sz) % 2 ^ K = r' ∧ Calls Try.prog 44 #[.agg #[.int .i64 K, .slice A nw c, .slice A' n c'], .int .i64 q, .int .i64 ((r + sz : Nat) : Int)] W' (Gives2 q' r' W') from fun Q q r sz W' hQ hq hr hqn hT' => by
    have hz : 0 < 2 ^ K := Nat.two_pow_pos K
    have hQm : Q / 2 ^ K < m := Nat.div_lt_of_lt_mul (by rw [Nat.mul_comm]; omega)
    have hlq : LenP F (q : Int) (m - Q / 2 ^ K) := by rw [← hq]; exact hl.from_ hQm
    have hd : Q = Q / 2 ^ K * 2 ^ K + r := by rw [← hr]; exact (Nat.div_add_mod' Q (2 ^ K)).symm
    have hms : (m - Q / 2 ^ K) * 2 ^ K = m * 2 ^ K - Q / 2 ^ K * 2 ^ K := Nat.sub_mul _ _ _
    obtain ⟨X, hX⟩ : ∃ X, X = Q / 2 ^ K := ⟨_, rfl⟩
    rw [← hX] at hQm hlq hd hms hq
    obtain ⟨Y, hY⟩ : ∃ Y, Y = X * 2 ^ K := ⟨_, rfl⟩
    rw [← hY] at hd hms
    have hk : r + sz < (m - X) * 2 ^ K := by rw [hms]; omega
    have hm2 : W ≤ 65536 := by omega
    have e1 : (Q + sz) / 2 ^ K = X + (r + sz) / 2 ^ K := by
      rw [show Q + sz = r + sz + X * 2 ^ K by omega, Nat.add_mul_div_right _ _ hz, Nat.add_comm]
    have e2 : (Q + sz) % 2 ^ K = (r + sz) % 2 ^ K := by
      rw [show Q + sz = r + sz + X * 2 ^ K by omega, Nat.add_mul_mod_self_right]
    have hi : (r + sz) / 2 ^ K < m - X := Nat.div_lt_of_lt_mul (by rw [Nat.mul_comm]; omega)
    have h3 := hlq.2 _ hi
    have h4 := iter_in hv.fv.inside hqn ((r + sz) / 2 ^ K)
    obtain ⟨q', hq'⟩ : ∃ q' : Nat, iter F ((r + sz) / 2 ^ K) q = q' := ⟨(iter F ((r + sz) / 2 ^ K) q).toNat, by omega⟩
    have hc := locate_any K (.slice A nw c) A' n c' F q (m - X) (r + sz) W' hT' (by omega) (by omega) hv.fv hqn hlq hk (by omega)
    rw [hq'] at hc
    exact ⟨q', (r + sz) % 2 ^ K, by omega, by rw [e1, iter_add, hq, hq'], e2, hc⟩)
  have HQ0 := Lib.hid (show ∀ Q : Nat, Q < W → ∃ q r : Nat, q < n ∧ iter F (Q / 2 ^ K) p = q ∧ Q % 2 ^ K = r ∧ r < 2 ^ K ∧ q * 2 ^ K + r < nw ∧ addrP F K p Q = ((q * 2 ^ K + r : Nat) : Int) from fun Q h => by
    obtain ⟨z, r, e1, h1, hz, _, h2, h3, h4⟩ := addr_in hv hp ho hl (show Q < m * 2 ^ K by omega)
    exact ⟨z, r, hz, h3, h4.symm, h1, h2, e1⟩)
  obtain ⟨U, hU⟩ : ∃ U, U = w.alloc (.cells #[.int .i64 K, .slice A nw c, .slice A' n c'] 25) := ⟨_, rfl⟩
  have BS : Blk U w.heap.size 25 #[.int .i64 K, .slice A nw c, .slice A' n c'] := by rw [hU]; exact Blk.new _ _ _
  have HBU : Hid (Below w.heap.size w U) := by rw [hU]; exact (Below.refl _ _).alloc (Nat.le_refl _) _
  have hxa := ba.lt
  have hxl := bl.lt
  have hzU := HBU.out.size
  have HV0 := Lib.hid (show VisAt U xa xl [] W U from ⟨_, ba.next HBU.out, World.ownsRow_nil _ _ _ _, bl.next HBU.out, Turn2.of_below (Below.refl _ _)⟩)
  have HA := Lib.hid hA
  have HT := Lib.hid hT
  have HU := Lib.hid hU
  have HU64 := Lib.hid hu
  have HBS := Lib.hid BS
  clear hA hT hU hv hu hl ho ba bl BS
  go_enter Try.func26, Try.ntmps26
  go_wp2
  rw [← HU.out]
  go_loopw [6, 7, 8, 9, 10, 11, 12] (fun f off _ _ _ _ _ wr => ∃ j Q q r : Nat, Q < W ∧ Hds K wd F p j ∧ posN K wd F p j = Q ∧ iter F (Q / 2 ^ K) p = q ∧ Q % 2 ^ K = r ∧ f = .int .i64 q ∧ off = .int .i64 r ∧ VisAt U xa xl (lstN K wd F p j) ((W - Q : Nat) : Int) wr) (fun _ _ _ _ _ _ _ wr => leftOf xl wr)
  case atStart => exact ⟨0, 0, p, 0, hW0, fun i hi => absurd hi (by omega), rfl, by rw [Nat.zero_div]; rfl, Nat.zero_mod _, rfl, rfl, HV0.out⟩
  case round =>
    obtain ⟨j, Q, q, r, hQ, hh, hpos, hq, hr, rfl, rfl, hvis⟩ := hrel
    obtain ⟨q', r', hqn, hq', hr', hrK, hnw, hadr⟩ := HQ0.out Q hQ
    obtain rfl : q' = q := by omega
    obtain rfl : r' = r := by omega
    obtain ⟨x, hx⟩ : ∃ x, x = q' * 2 ^ K + r' := ⟨_, rfl⟩
    obtain ⟨P, hP⟩ : ∃ P, P = q' * 2 ^ K := ⟨_, rfl⟩
    rw [← hx] at hadr hnw
    have hrb : r' ≤ 16384 := by omega
    have xb : -9223372036854775808 ≤ (x : Int) ∧ (x : Int) ≤ 9223372036854775807 := by clear hx hP HBU HLOC HQ0; omega
    have hxP : x = P + r' := by rw [hx, hP]
    have s0 : (q' : Int) * 2 ^ K = (P : Int) := by rw [hP]; simp
    have s1 : wrap64 ((q' : Int) * 2 ^ K) = (P : Int) := by rw [s0]; exact IntWalk.wrap64_in _ ⟨by omega, by omega⟩
    have s2 : wrap64 ((P : Int) + r') = (x : Int) := by rw [IntWalk.wrap64_in _ ⟨by omega, by omega⟩]; omega
    have hqm : ((q' : Int) != -1) = true := by simp
    obtain ⟨v, b1, b2, b3, b4⟩ := hvis
    have hmeas := leftOf_at b3
    have BS1 := HBS.out.turn2 b4 (by omega) (by omega)
    have AR := Lib.hid (HA.out wr (b4.pre HBU.out))
    have TR := Lib.hid (HT.out wr (b4.pre HBU.out))
    have HVIS := Lib.hid (show VisAt U xa xl (lstN K wd F p j) ((W - Q : Nat) : Int) wr from ⟨v, b1, b2, b3, b4⟩)
    have HNY := Lib.hid (HNX.out j Q x hpos hQ hadr)
    have HIT := Lib.hid hq
    have HRR := Lib.hid hr
    have HHD := Lib.hid hh
    have HPOS := Lib.hid hpos
    have hjl : (lstN K wd F p j).length ≤ Q := by rw [lstN_length]; have := posN_ge (K := K) (wd := wd) (F := F) (p := p) j; omega
    have p0 := BS1.cell 0
    have p1 := BS1.cell 1
    have p2 := BS1.cell 2
    have pz := BS1.lt
    simp at p0 p1 p2
    have hrng := shp_range (s := K) (n := n) (F := F) (a := (x : Int)) HU64.out
    obtain ⟨R, hR⟩ : ∃ R : Nat, shpR K nw wd n F x = R := ⟨(shpR K nw wd n F x).toNat, by omega⟩
    obtain ⟨D, hD⟩ : ∃ D : Nat, shpD K nw wd n F x = D := ⟨(shpD K nw wd n F x).toNat, by omega⟩
    obtain ⟨y, hy⟩ : ∃ y, shpE K nw wd n F x = y := ⟨_, rfl⟩
    have CS := objShape_any K A A' nw c n c' wd F x wr AR.out TR.out HU64.out xb.1 xb.2
    rw [hR, hD, hy] at CS
    rw [hR, hD] at hrng
    have HR := Lib.hid hR
    have HD := Lib.hid hD
    have HY := Lib.hid hy
    have HJL := Lib.hid hjl
    have HME := Lib.hid hmeas
    clear b1 b2 b3 b4 hq hr hh hpos hadr hR hD hy hx hP hq' hr' s0 HV0 hxP hjl xb hmeas
    go_upto_region 4 with fail
    rw [s1, s2]
    go_wp2_with fail
    refine CS.mono ?_
    rintro e W1 ⟨rfl, hb1⟩
    have BS2 := BS1.next hb1
    have HVIS1 := Lib.hid (HVIS.out.next hb1)
    have HB1 := Lib.hid hb1
    clear hb1 CS p0 p1 p2 pz s1 s2 BS1
    by_cases hy0 : y = 0
    · subst hy0
      have w1 : IntKind.i64.wrap (1 + (R : Int)) = 1 + R := IntWalk.i64_in _ (by omega)
      have w2 : IntKind.i64.wrap (1 + (R : Int) + D) = 1 + R + D := IntWalk.i64_in _ (by omega)
      have CV := visit_any U W1 xa xl (lstN K wd F p j) ((W - Q : Nat) : Int) x (1 + (R : Int) + D) HVIS1.out hne (by omega) (by omega) (by have := HJL.out; omega) (by omega) (by omega)
      obtain ⟨n4, n5⟩ := HNY.out.2.2 HY.out
      rw [HR.out, HD.out] at n5
      have HDM := Lib.hid (show lstN K wd F p j ++ [x] = lstN K wd F p (j + 1) ∧ Hds K wd F p (j + 1) ∧ posN K wd F p (j + 1) = Q + (1 + R + D) from ⟨by rw [lstN_succ, HNY.out.1], HHD.out.more (by rw [HNY.out.1]; exact n4), by omega⟩)
      clear n4 n5
      by_cases hlt : Q + (1 + R + D) < W
      · rw [show (decide (1 + (R : Int) + D < ((W - Q : Nat) : Int))) = true from decide_eq_true (by omega)] at CV
        go_wp2_with fail
        refine CV.mono ?_
        rintro e W2 ⟨rfl, hvis2⟩
        have hv2 := hvis2
        obtain ⟨_, _, _, _, ht2⟩ := hv2
        have BS3 := HBS.out.turn2 ht2 (by omega) (by omega)
        obtain ⟨q2, r2, hq2n, hq2, hr2, CL⟩ := HLOC.out Q q' r' (1 + R + D) W2 hlt HIT.out HRR.out hqn (HT.out W2 (ht2.pre HBU.out))
        have HVIS2 := Lib.hid hvis2
        have HQ2 := Lib.hid hq2
        have HR2 := Lib.hid hr2
        have p0 := BS3.cell 0
        have p1 := BS3.cell 1
        have p2 := BS3.cell 2
        have pz := BS3.lt
        simp at p0 p1 p2
        obtain ⟨z3, hz3⟩ : ∃ z, z = r' + (1 + R + D) := ⟨_, rfl⟩
        have s3 : IntKind.i64.wrap ((r' : Int) + (1 + (R : Int) + D)) = (z3 : Int) := by rw [IntWalk.i64_in _ (by omega)]; omega
        rw [← hz3] at CL
        clear hvis2 CV ht2 BS3 hq2 hr2 hz3
        go_wp2_with fail
        refine CL.mono ?_
        rintro e W3 ⟨rfl, hb3⟩
        have HVIS3 := Lib.hid (HVIS2.out.next hb3)
        have HB3 := Lib.hid hb3
        clear hb3 CL p0 p1 p2 pz s3
        go_wp2_with fail
        have V3 := HVIS3.out
        rw [HDM.out.1, show ((W - Q : Nat) : Int) - (1 + (R : Int) + D) = ((W - (Q + (1 + R + D)) : Nat) : Int) by omega] at V3
        have V4 := V3
        obtain ⟨_, _, _, b9, _⟩ := V4
        have hm9 := leftOf_at b9
        have hm8 := HME.out
        exact ⟨⟨j + 1, Q + (1 + R + D), q2, r2, hlt, HDM.out.2.1, HDM.out.2.2, HQ2.out, HR2.out, rfl, rfl, V3⟩, by rw [hm9, hm8]; omega⟩
      · rw [show (decide (1 + (R : Int) + D < ((W - Q : Nat) : Int))) = false from decide_eq_false (by omega)] at CV
        go_wp2_with fail
        refine CV.mono ?_
        rintro e W2 ⟨rfl, hvis2⟩
        have HVIS2 := Lib.hid hvis2
        clear hvis2 CV
        go_wp2_with fail
        refine bodyPost_ret (v := .tuple #[]) (by simp [results, Try.results26, go_sem]) rfl ?_
        have hd := HDM.out.2.2
        have hp0 := HPOS.out
        refine ⟨⟨_, rfl⟩, j + 1, ((W - Q : Nat) : Int) - (1 + (R : Int) + D), by rw [← HDM.out.1]; exact HVIS2.out.pre HBU.out, by omega, ?_⟩
        by_cases he : Q + (1 + R + D) = W
        · exact .inl ⟨HDM.out.2.1, by omega⟩
        · exact .inr ⟨by omega, j, HHD.out, by omega, .inr ⟨by omega, fun h => by have := h.2; omega, rfl, rfl⟩⟩
    · have hne0 : (y != 0) = true := by simpa using hy0
      have HY0 := Lib.hid hy0
      clear hy0
      go_wp2_with fail
      refine bodyPost_ret (v := .tuple #[]) (by simp [results, Try.results26, go_sem]) rfl ?_
      have hp0 := HPOS.out
      exact ⟨⟨_, rfl⟩, j, ((W - Q : Nat) : Int), HVIS1.out.pre HBU.out, by omega, .inr ⟨by omega, j, HHD.out, by omega, .inr ⟨by omega, fun h => HY0.out (HY.out.symm.trans (HNY.out.2.1.2 h).1), rfl, rfl⟩⟩⟩
set_option maxHeartbeats 1000000 in
theorem eachZ_any (K : Nat) (A A' : Option Addr) (nw c n c' : Nat) (wd : Nat → Int) (F : Nat → Fr) (xa xl : Nat) (w : World) (ba : Blk w xa 28 #[.slice none 0 0]) (bl : Blk w xl 3 #[.int .i64 0]) :
    Calls Try.prog 26 #[.agg #[.int .i64 K, .slice A nw c, .slice A' n c'], .int .i64 (-1), .func (.func 28) #[] #[.pointer (some ⟨xa, 0, none⟩), .pointer (some ⟨xl, 0, none⟩)]] w (EachOut K wd F (-1) 0 w xa xl) := by
  obtain ⟨U, hU⟩ : ∃ U, U = w.alloc (.cells #[.int .i64 K, .slice A nw c, .slice A' n c'] 25) := ⟨_, rfl⟩
  have HBU : Hid (Below w.heap.size w U) := by rw [hU]; exact (Below.refl _ _).alloc (Nat.le_refl _) _
  have HV0 := Lib.hid (show VisAt w xa xl [] 0 U from ⟨_, ba.next HBU.out, World.ownsRow_nil _ _ _ _, bl.next HBU.out, Turn2.of_below HBU.out⟩)
  have HU := Lib.hid hU
  clear hU ba bl
  go_enter Try.func26, Try.ntmps26
  go_wp2
  rw [← HU.out]
  go_loopw [6, 7, 8, 9, 10, 11, 12] (fun f off _ _ _ _ _ wr => f = .int .i64 (-1) ∧ off = .int .i64 0 ∧ wr = U) (fun _ _ _ _ _ _ _ _ => 0)
  case atStart => exact ⟨rfl, rfl, rfl⟩
  case round =>
    obtain ⟨rfl, rfl, rfl⟩ := hrel
    go_wp2
    refine bodyPost_ret (v := .tuple #[]) (by simp [results, Try.results26, go_sem]) rfl ?_
    exact ⟨⟨_, rfl⟩, 0, 0, HV0.out, rfl, .inl ⟨fun i hi => absurd hi (by omega), rfl⟩⟩
end Go.Proofs.Ythcfcciemjkilaa
