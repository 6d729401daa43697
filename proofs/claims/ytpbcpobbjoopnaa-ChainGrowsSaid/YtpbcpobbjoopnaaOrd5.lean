/-
  The walk of ChainOrder.
-/
import Derived.Test.YtpbcpobbjoopnaaAw5
import Derived.Test.YtpbcpobbjoopnaaMakes
namespace Go.Proofs.Ytpbcpobbjoopnaa
open Go.RowKit
set_option maxRecDepth 100000
set_option linter.unusedVariables false

section
variable {F : Nat → Fr} {n : Nat}
/-- Along a chain that ends no frame comes twice. -/
theorem LenP.inj {p : Int} {m i j : Nat} (h : LenP F p m) (hij : i < j) (hj : j < m) : iter F i p ≠ iter F j p := by
  intro e
  have h1 : iter F (j + (m - j)) p = -1 := by rw [show j + (m - j) = m by omega]; exact h.1
  rw [iter_add, ← e, ← iter_add] at h1
  exact h.2 (i + (m - j)) (by omega) h1
theorem LenP.from_ {p : Int} {m q : Nat} (h : LenP F p m) (hq : q < m) : LenP F (iter F q p) (m - q) := by
  refine ⟨by rw [← iter_add, show q + (m - q) = m by omega]; exact h.1, fun i hi => ?_⟩
  rw [← iter_add]
  exact h.2 _ (by omega)
theorem addrP_add {K P Q q r : Nat} {first : Int} (hP : P = q * 2 ^ K + r) : addrP F K (iter F q first) (r + Q) = addrP F K first (P + Q) := by
  have hz : 0 < 2 ^ K := Nat.two_pow_pos K
  unfold addrP
  rw [← iter_add]
  have e1 : (P + Q) / 2 ^ K = q + (r + Q) / 2 ^ K := by
    rw [hP, Nat.add_assoc, Nat.add_comm (q * 2 ^ K), Nat.add_mul_div_right _ _ hz, Nat.add_comm]
  have e2 : (P + Q) % 2 ^ K = (r + Q) % 2 ^ K := by
    rw [hP, Nat.add_assoc, Nat.add_comm (q * 2 ^ K), Nat.add_mul_mod_self_right]
  rw [e1, e2]

/-- A chain is one array. -/
theorem chain_order {K nw m p P Q : Nat} {wd : Nat → Int} (hv : ValidP K nw wd n F) (hp : p < n) (ho : (F p).ow ≠ -1) (hl : LenP F p m) (hP : P < m * 2 ^ K) :
    ∃ X Y : Int, 0 ≤ X ∧ X < nw ∧ stpE K nw wd n F ((p : Int) * 2 ^ K) P = 0 ∧ stpV K nw wd n F ((p : Int) * 2 ^ K) P = X ∧ idxE K nw wd n F p X = 0 ∧ idxV K nw wd n F p X = P ∧
      (P + Q < m * 2 ^ K → stpE K nw wd n F X Q = 0 ∧ stpV K nw wd n F X Q = Y ∧ stpE K nw wd n F ((p : Int) * 2 ^ K) ((P : Int) + Q) = 0 ∧ stpV K nw wd n F ((p : Int) * 2 ^ K) ((P : Int) + Q) = Y) ∧
      (m * 2 ^ K ≤ P + Q → stpE K nw wd n F X Q = 2 ∧ stpV K nw wd n F X Q = 0 ∧ stpE K nw wd n F ((p : Int) * 2 ^ K) ((P : Int) + Q) = 2 ∧ stpV K nw wd n F ((p : Int) * 2 ^ K) ((P : Int) + Q) = 0) := by
  have hvb := validB_yes hv
  have hw := hv.2.2.1
  rw [Int.toNat_natCast] at hw
  have hz : 0 < 2 ^ K := Nat.two_pow_pos K
  have ez : (2 : Int) ^ K = ((2 ^ K : Nat) : Int) := by simp
  have hmb := hl.bound hv.fv rfl hp
  have hlen := chL_length (n := n) hl hmb
  -- the base of the chain
  have hpz : p * 2 ^ K + 2 ^ K ≤ n * 2 ^ K := by
    have := Nat.mul_le_mul_right (2 ^ K) (show p + 1 ≤ n by omega)
    rw [Nat.add_mul, Nat.one_mul] at this
    exact this
  have ha0 : adB nw ((p : Int) * 2 ^ K) = true := adB_of (by rw [ez, ← Int.natCast_mul]; omega)
  have hpa : PartsA K ((p : Int) * 2 ^ K) p 0 := by
    refine ⟨?_, ?_, hz, ?_⟩
    · rw [ez, ← Int.natCast_mul, ← Int.natCast_ediv, Nat.mul_div_cancel _ hz]
    · rw [ez, ← Int.natCast_mul, ← Int.natCast_emod, Nat.mul_mod_left]
    · rw [ez, ← Int.natCast_mul]; rfl
  -- the word at place P
  obtain ⟨q, hq⟩ : ∃ q, q = P / 2 ^ K := ⟨_, rfl⟩
  obtain ⟨r, hr⟩ : ∃ r, r = P % 2 ^ K := ⟨_, rfl⟩
  have hPq : P = q * 2 ^ K + r := by rw [hq, hr]; exact (Nat.div_add_mod' P (2 ^ K)).symm
  have hrz : r < 2 ^ K := by rw [hr]; exact Nat.mod_lt _ hz
  have hqm : q < m := by rw [hq]; exact Nat.div_lt_of_lt_mul (by rw [Nat.mul_comm]; exact hP)
  have hy0 := hv.fv.nonneg hp (hl.2 q hqm)
  obtain ⟨y, hy⟩ : ∃ y : Nat, iter F q p = y := ⟨(iter F q p).toNat, by omega⟩
  have hyn : y < n := by omega
  have hX : addrP F K p P = ((y * 2 ^ K + r : Nat) : Int) := by
    rw [addrP_at hPq hrz hy, ez]; simp
  have hyz : y * 2 ^ K + 2 ^ K ≤ n * 2 ^ K := by
    have := Nat.mul_le_mul_right (2 ^ K) (show y + 1 ≤ n by omega)
    rw [Nat.add_mul, Nat.one_mul] at this
    exact this
  have haX : adB nw (addrP F K p P) = true := adB_of (by rw [hX]; omega)
  have hpX : PartsA K (addrP F K p P) y r := by
    rw [hX]
    refine ⟨?_, ?_, hrz, rfl⟩
    · rw [ez, ← Int.natCast_ediv, Nat.add_comm, Nat.add_mul_div_right _ _ hz, Nat.div_eq_of_lt hrz, Nat.zero_add]
    · rw [ez, ← Int.natCast_emod, Nat.add_comm, Nat.add_mul_mod_self_right, Nat.mod_eq_of_lt hrz]
  have hoy : (F y).ow ≠ -1 := by
    have h1 := (hv.fv.along hp ho q (hl.2 q hqm)).1
    rw [hy, Int.toNat_natCast] at h1
    rw [h1]; exact ho
  have hly : LenP F y (m - q) := by rw [← hy]; exact hl.from_ hqm
  have hleny := chL_length (n := n) hly (by omega)
  obtain ⟨a1, a2⟩ := stp_ok (x := P) hvb ha0 hpa ho hlen (by omega)
  rw [Nat.zero_add] at a2
  obtain ⟨b1, b2⟩ := idx_ok hvb hv.fv hp haX hpX ho hl hqm hy (fun i hi => by rw [← hy]; exact hl.inj hi hqm)
  have hmq : (m - q) * 2 ^ K = m * 2 ^ K - q * 2 ^ K := Nat.sub_mul _ _ _
  have hqmz : q * 2 ^ K + 2 ^ K ≤ m * 2 ^ K := by
    have := Nat.mul_le_mul_right (2 ^ K) (show q + 1 ≤ m by omega)
    rw [Nat.add_mul, Nat.one_mul] at this
    exact this
  refine ⟨addrP F K p P, addrP F K p (P + Q), (adB_yes haX).1, (adB_yes haX).2, a1, a2, b1, ?_, fun hlt => ?_, fun hge => ?_⟩
  · rw [b2, ← Int.natCast_add, ← hPq]
  · obtain ⟨c1, c2⟩ := stp_ok (x := Q) hvb haX hpX hoy hleny (by omega)
    obtain ⟨d1, d2⟩ := stp_ok (x := P + Q) hvb ha0 hpa ho hlen (by omega)
    rw [Nat.zero_add] at d2
    refine ⟨c1, ?_, by rw [← Int.natCast_add]; exact d1, by rw [← Int.natCast_add]; exact d2⟩
    rw [c2, ← hy]
    exact addrP_add hPq
  · obtain ⟨c1, c2⟩ := stp_end (x := Q) hvb haX hpX hoy hleny (by omega)
    obtain ⟨d1, d2⟩ := stp_end (x := P + Q) hvb ha0 hpa ho hlen (by omega)
    exact ⟨c1, c2, by rw [← Int.natCast_add]; exact d1, by rw [← Int.natCast_add]; exact d2⟩
end

/-- The cells of an increment in a list of them. -/
theorem incCells_get : ∀ (I : List IncR) (t : Nat) (i : IncR), I[t]? = some i →
    (incCells I)[t * 5]? = some (.int .i64 i.sq) ∧ (incCells I)[t * 5 + 1]? = some (.int .i64 i.bt) ∧ (incCells I)[t * 5 + 2]? = some (.int .i64 i.fi) ∧ (incCells I)[t * 5 + 3]? = some (.int .i64 i.la) ∧ (incCells I)[t * 5 + 4]? = some (.int .i64 i.wo)
  | [], t, i, h => by simp at h
  | x :: I, 0, i, h => by
    simp at h
    subst h
    exact ⟨rfl, rfl, rfl, rfl, rfl⟩
  | x :: I, t + 1, i, h => by
    have ih := incCells_get I t i (by simpa using h)
    have e : incCells (x :: I) = [.int .i64 x.sq, .int .i64 x.bt, .int .i64 x.fi, .int .i64 x.la, .int .i64 x.wo] ++ incCells I := rfl
    have key : ∀ d, (incCells (x :: I))[(t + 1) * 5 + d]? = (incCells I)[t * 5 + d]? := fun d => by
      rw [e, List.getElem?_append_right (by simp; omega)]
      congr 1
      simp
      omega
    exact ⟨(key 0).trans ih.1, (key 1).trans ih.2.1, (key 2).trans ih.2.2.1, (key 3).trans ih.2.2.2.1, (key 4).trans ih.2.2.2.2⟩
theorem lrow_cells {w : World} {B ib : Nat} {L : Value} {I : List IncR} (h : LRow w B ib I.length L (incCells I)) {t : Nat} {i : IncR} (ht : I[t]? = some i) :
    ∃ g cap, L = .slice (some ⟨g, 0, none⟩) I.length cap ∧ B ≤ g ∧ g < ib ∧ g < w.heap.size ∧ w.cell? ⟨g, t * 5, none⟩ = some (.int .i64 i.sq) ∧ w.cell? ⟨g, t * 5 + 1, none⟩ = some (.int .i64 i.bt) ∧ w.cell? ⟨g, t * 5 + 2, none⟩ = some (.int .i64 i.fi) ∧
      w.cell? ⟨g, t * 5 + 3, none⟩ = some (.int .i64 i.la) ∧ w.cell? ⟨g, t * 5 + 4, none⟩ = some (.int .i64 i.wo) := by
  obtain ⟨⟨hl, h⟩, hib⟩ := h
  have htl : t < I.length := by
    rcases Nat.lt_or_ge t I.length with h1 | h1
    · exact h1
    · rw [List.getElem?_eq_none h1] at ht; cases ht
  rcases h with ⟨_, h0⟩ | ⟨g, cap, cur, rfl, hb, hg, hc, hm, hs, htk⟩
  · omega
  · obtain ⟨c0, c1, c2, c3, c4⟩ := incCells_get I t i ht
    have key : ∀ (d : Nat) (v : Value), d < 5 → (incCells I)[t * 5 + d]? = some v → w.cell? ⟨g, t * 5 + d, none⟩ = some v := by
      intro d v hd hv
      rw [← htk, List.getElem?_take, if_pos (by omega)] at hv
      rw [cell_row hg]
      simpa using hv
    exact ⟨g, cap, rfl, hb, hib g rfl, blk_lt hg, key 0 _ (by omega) c0, key 1 _ (by omega) c1, key 2 _ (by omega) c2, key 3 _ (by omega) c3, key 4 _ (by omega) c4⟩
theorem allP_len {F : Nat → Fr} {n k : Nat} {I : List IncR} (h : AllP F n k I) : I.length ≤ 17 := by
  rcases Nat.lt_or_ge 17 I.length with h1 | h1
  · obtain ⟨h2, _, h3, _⟩ := h 17 I[17] (by rw [List.getElem?_eq_getElem h1])
    have := h2.2.1
    omega
  · exact h1
/-- The chain of an increment that is well. -/
theorem inc_chain {F : Nat → Fr} {n k : Nat} {i : IncR} (h : IncP F n k i.sq i.bt i.fi i.la i.wo) (hw : 0 < i.wo) (hv : FV F n) : ∃ p : Nat, i.fi = p ∧ p < n ∧ (F p).ow ≠ -1 ∧ ∃ m, LenP F p m ∧ 0 < m ∧ m ≤ n + 1 := by
  obtain ⟨h1, h2, h3, h4, W, hW, hc, _⟩ := h
  have hpos : 0 < ceilV W k := by
    have h5 := ceilV_cover W k
    rcases Nat.eq_zero_or_pos (ceilV W k) with e | e
    · rw [e] at h5; omega
    · exact e
  rcases hc with ⟨h5, _⟩ | ⟨_, p, l, hf, hp, hla, hl, hi, hx, hpo, hps⟩
  · omega
  · refine ⟨p, hf, hp, by omega, ?_⟩
    obtain ⟨m, hm, hlen⟩ := hv.len hp
    exact ⟨m, hlen, hlen.pos, hm⟩

set_option maxHeartbeats 8000000 in
theorem walkOrd5 (Al : Option Addr) (nl cl : Nat) (wh j k : Int) (w : World) (hL : ListP w w.heap.size Al nl cl) (i0 : -9223372036854775808 ≤ wh) (i1 : wh ≤ 9223372036854775807) (j0 : -9223372036854775808 ≤ j) (j1 : j ≤ 9223372036854775807) (k0 : -9223372036854775808 ≤ k) (k1 : k ≤ 9223372036854775807) :
    Calls Try.prog 5 #[.slice Al nl cl, .int .i64 wh, .int .i64 j, .int .i64 k] w fun e w' => e = .returned (.bool true) ∧ Below w.heap.size w w' := by
  go_enter Try.func5, Try.ntmps5
  go_wp2_with fail
  refine (deck_any Al nl cl w hL).mono ?_
  rintro e U2 ⟨rfl, hd, hb, hz⟩
  have HDK := Lib.hid hd
  have HBU2 := Lib.hid hb
  clear hd hb hL hz
  go_wp2_with fail
  refine (space_any w.heap.size U2 HDK.out).mono ?_
  rintro e U3 ⟨K, m, B, d, gb, d', wd, F, L, rfl, kk0, kk1, m0, m1, hoA, hoT, ⟨hvp, how⟩, ⟨_, I, BI, hBI, hLR, hAll⟩, hG⟩
  have HBU3 := Lib.hid (below_turn HBU2.out hG (Nat.le_refl _))
  have HA3 := Lib.hid hoA.arr
  have HT3 := Lib.hid hoT.tab
  have HVP := Lib.hid hvp
  have HLR := Lib.hid hLR
  have HALL := Lib.hid hAll
  have hN17 := allP_len hAll
  have hmk0 : 0 < m * 2 ^ K := Nat.mul_pos (by omega) (Nat.two_pow_pos K)
  have hmk1 : m * 2 ^ K ≤ 16384 := prod_le (by omega) (by omega)
  obtain ⟨mk, hmk⟩ : ∃ mk, mk = m * 2 ^ K := ⟨_, rfl⟩
  rw [← hmk] at HA3 HVP hmk0 hmk1 ⊢
  obtain ⟨V, hV⟩ : ∃ V, V = U3.alloc (.cells #[.int .i64 K, .slice B mk d, .slice (some ⟨gb, 0, none⟩) m d'] 25) := ⟨_, rfl⟩
  have hbv : Below U3.heap.size U3 V := by rw [hV]; exact (Below.refl _ _).alloc (Nat.le_refl _) _
  have BY := Lib.hid (show Blk V U3.heap.size 25 #[.int .i64 K, .slice B mk d, .slice (some ⟨gb, 0, none⟩) m d'] by rw [hV]; exact Blk.new _ _ _)
  have HBV := Lib.hid (below_next HBU3.out (Nat.le_refl _) hbv)
  have HA := Lib.hid (HA3.out.next hbv)
  have HT := Lib.hid (HT3.out.next hbv)
  have HLV := Lib.hid (HLR.out.below hbv)
  have HV := Lib.hid hV
  have q0 := BY.out.cell 0
  have q1 := BY.out.cell 1
  have q2 := BY.out.cell 2
  have qz := BY.out.lt
  simp at q0 q1 q2
  obtain ⟨AL, cL, eL, hcL⟩ := row_slice HLV.out.1
  subst eL
  clear hV hbv HBU3 HA3 HT3 hG hoA hoT HDK HBU2 hvp how hmk hLR hAll hBI HLR
  go_upto_region 2 with fail
  rw [← HV.out]
  by_cases hN : I.length = 0
  · have hb1 : ((I.length : Int) == 0) = true := by simp [hN]
    clear hN hN17
    go_wp2_with (go_at_call 8; refine (awake5_any V).mono ?_; rintro e w1 ⟨rfl, hb⟩; have HB := Lib.hid (below_next HBV.out (Nat.le_refl _) hb); clear hb)
    go_ret
    exact ⟨rfl, HB.out⟩
  · obtain ⟨N, hNN⟩ : ∃ N, N = I.length := ⟨_, rfl⟩
    have hN0 : 0 < N := by omega
    obtain ⟨t, htt⟩ : ∃ t : Nat, wh % (N : Int) = t := ⟨(wh % (N : Int)).toNat, by have := Int.emod_nonneg wh (show (N : Int) ≠ 0 by omega); omega⟩
    have htN : t < N := by have := Int.emod_lt_of_pos wh (show 0 < (N : Int) by omega); omega
    obtain ⟨inc, hinc⟩ : ∃ i, I[t]? = some i := ⟨I[t]'(by omega), List.getElem?_eq_getElem (by omega)⟩
    obtain ⟨g, cap, e, hg0, hg1, hgz, c0, c1, c2, c3, c4⟩ := lrow_cells HLV.out hinc
    injection e with e1 e2 e3
    subst e1
    subst e3
    obtain ⟨hP, hwo, _⟩ := HALL.out t inc hinc
    obtain ⟨p, hfi, hpm, hpo, M, hlen, hM0, hM1⟩ := inc_chain hP hwo HVP.out.fv
    rw [hfi] at c2
    obtain ⟨le1, le2⟩ := lst_ok (validB_yes HVP.out) hpm hpo
    have hchl := chL_length (n := m) hlen hM1
    have HMOD := Lib.hid htt
    have HLE1 := Lib.hid le1
    have HLE2 := Lib.hid le2
    have HCHL := Lib.hid hchl
    have HLEN := Lib.hid hlen
    have HPO := Lib.hid hpo
    have hb1 : ((N : Int) == 0) = false := by simp; omega
    have ht2 : 0 ≤ (t : Int) ∧ (t : Int) < N := by omega
    have hp2 : 0 ≤ (p : Int) ∧ (p : Int) < m := by omega
    rw [← hNN] at hN17 hcL ⊢
    obtain ⟨x0, hx0⟩ : ∃ x, x = inc.sq := ⟨_, rfl⟩
    obtain ⟨x1, hx1⟩ : ∃ x, x = inc.bt := ⟨_, rfl⟩
    obtain ⟨x3, hx3⟩ : ∃ x, x = inc.la := ⟨_, rfl⟩
    obtain ⟨x4, hx4⟩ : ∃ x, x = inc.wo := ⟨_, rfl⟩
    rw [← hx0] at c0
    rw [← hx1] at c1
    rw [← hx3] at c3
    rw [← hx4] at c4
    clear hx0 hx1 hx3 hx4 hP hwo hfi hlen hpo le1 le2 hchl hinc htt hN hNN hg0 hg1
    -- the numbers
    obtain ⟨z, hz⟩ : ∃ z, z = 2 ^ K := ⟨_, rfl⟩
    have z0 : 0 < z := by rw [hz]; exact Nat.two_pow_pos K
    have z1 : z ≤ 256 := by
      have := pw_bd (k := K) (by omega)
      have e : ((2 ^ K : Nat) : Int) = (2 : Int) ^ K := by simp
      omega
    have ez : (2 : Int) ^ K = z := by rw [hz]; simp
    obtain ⟨S, hS⟩ : ∃ S, S = M * z := ⟨_, rfl⟩
    have hS0 : 0 < S := by rw [hS]; exact Nat.mul_pos hM0 z0
    have hS1 : S ≤ 65 * 256 := by rw [hS]; exact Nat.mul_le_mul (by omega) z1
    have bS0 : (1 : Int) ≤ S := by omega
    have bS1 : (S : Int) ≤ 9223372036854775807 := by omega
    obtain ⟨P, hPP⟩ : ∃ P : Nat, j % (S : Int) = P := ⟨(j % (S : Int)).toNat, by have := Int.emod_nonneg j (show (S : Int) ≠ 0 by omega); omega⟩
    obtain ⟨Q, hQQ⟩ : ∃ Q : Nat, k % (S : Int) = Q := ⟨(k % (S : Int)).toNat, by have := Int.emod_nonneg k (show (S : Int) ≠ 0 by omega); omega⟩
    have hPS : P < S := by have := Int.emod_lt_of_pos j (show 0 < (S : Int) by omega); omega
    have hQS : Q < S := by have := Int.emod_lt_of_pos k (show 0 < (S : Int) by omega); omega
    obtain ⟨X, Y, X0, X1, s1, s2, s3, s4, s5, s6⟩ := chain_order (Q := Q) HVP.out hpm HPO.out HLEN.out (P := P) (by rw [← hz, ← hS]; exact hPS)
    obtain ⟨pz, hpz⟩ : ∃ pz : Int, pz = (p : Int) * 2 ^ K := ⟨_, rfl⟩
    have hpb : 0 ≤ (p : Int) * 2 ^ K ∧ (p : Int) * 2 ^ K ≤ 16384 := prod_bd (by omega) (by omega)
    rw [← hz, ← hS] at s5 s6
    rw [← hpz] at s1 s2 s5 s6 hpb
    have bP0 : -9223372036854775808 ≤ (P : Int) := by omega
    have bP1 : (P : Int) ≤ 9223372036854775807 := by omega
    have bQ0 : -9223372036854775808 ≤ (Q : Int) := by omega
    have bQ1 : (Q : Int) ≤ 9223372036854775807 := by omega
    have bR0 : -9223372036854775808 ≤ (P : Int) + Q := by omega
    have bR1 : (P : Int) + Q ≤ 9223372036854775807 := by omega
    have bX0 : -9223372036854775808 ≤ X := by omega
    have bX1 : X ≤ 9223372036854775807 := by omega
    have bp0 : -9223372036854775808 ≤ pz := by omega
    have bp1 : pz ≤ 9223372036854775807 := by omega
    have h1 := Lib.hid s1
    have h2 := Lib.hid s2
    have h3 := Lib.hid s3
    have h4 := Lib.hid s4
    have h5 := Lib.hid s5
    have h6 := Lib.hid s6
    have HPP := Lib.hid hPP
    have HQQ := Lib.hid hQQ
    have HSM : Hid ((M : Int) * 2 ^ K = (S : Int)) := Lib.hid (by rw [ez, hS]; simp)
    have HPZ := Lib.hid hpz.symm
    have hMb : 0 ≤ (M : Int) * 2 ^ K ∧ (M : Int) * 2 ^ K ≤ 16640 := by rw [HSM.out]; omega
    have hpb2 : 0 ≤ (p : Int) * 2 ^ K ∧ (p : Int) * 2 ^ K ≤ 16384 := by rw [HPZ.out]; exact hpb
    clear s1 s2 s3 s4 s5 s6 hPP hQQ hz ez hpz hS
    go_upto_region 5 with (go_at_call 14; refine (mod_any wh N (by omega) (by omega) (by omega) (by omega) _).mono ?_; rintro e w' ⟨rfl, rfl⟩; rw [HMOD.out])
    obtain ⟨W, hW⟩ : ∃ W, W = V.alloc (.cells #[.int .i64 x0, .int .i64 x1, .int .i64 p, .int .i64 x3, .int .i64 x4] 53) := ⟨_, rfl⟩
    have hbw : Below V.heap.size V W := by rw [hW]; exact (Below.refl _ _).alloc (Nat.le_refl _) _
    have BW := Lib.hid (BY.out.next hbw)
    have BI := Lib.hid (show Blk W V.heap.size 53 #[.int .i64 x0, .int .i64 x1, .int .i64 p, .int .i64 x3, .int .i64 x4] by rw [hW]; exact Blk.new _ _ _)
    have HBW := Lib.hid (below_next HBV.out (Nat.le_refl _) hbw)
    have HA1 := Lib.hid (HA.out.next hbw)
    have HT1 := Lib.hid (HT.out.next hbw)
    have HW := Lib.hid hW
    have r0 := BW.out.cell 0
    have r1 := BW.out.cell 1
    have r2 := BW.out.cell 2
    have rz := BW.out.lt
    have t2 := BI.out.cell 2
    have tz := BI.out.lt
    simp at r0 r1 r2 t2
    clear hW hbw c0 c1 c2 c3 c4 q0 q1 q2 qz hgz HLV
    rw [← HW.out]
    have hMne : ((M : Int) == 0) = false := by simp; omega
    go_upto_region 9 with (go_at_call 17; refine (list5_any K _ _ mk d m d' wd F p W HA1.out HT1.out).mono ?_; rintro e w1 ⟨A1, c1, rfl, hn1, hb1⟩; rw [HLE2.out, HCHL.out, HLE1.out]; have B1 := Lib.hid (BW.out.next hb1); have I1 := Lib.hid (BI.out.next hb1); have r0 := B1.out.cell 0; have r1 := B1.out.cell 1; have r2 := B1.out.cell 2; have rz := B1.out.lt; have t2 := I1.out.cell 2; have tz := I1.out.lt; simp at r0 r1 r2 t2; have HB1 := Lib.hid (below_next HBW.out (Nat.le_refl _) hb1); have HA2 := Lib.hid (HA1.out.next hb1); have HT2 := Lib.hid (HT1.out.next hb1); clear hb1 hn1)
    rw [HSM.out]
    clear hMb
    obtain ⟨E5, V5, hs1, hs2, hs3, hs4, hE⟩ : ∃ E5 V5 : Int, stpE K mk wd m F X Q = E5 ∧ stpV K mk wd m F X Q = V5 ∧ stpE K mk wd m F pz ((P : Int) + Q) = E5 ∧ stpV K mk wd m F pz ((P : Int) + Q) = V5 ∧ ((E5 = 0 ∧ (P : Int) + Q < S) ∨ (E5 = 2 ∧ (S : Int) ≤ (P : Int) + Q)) := by
      by_cases hlt : P + Q < S
      · obtain ⟨a1, a2, a3, a4⟩ := h5.out hlt
        exact ⟨0, Y, a1, a2, a3, a4, .inl ⟨rfl, by omega⟩⟩
      · obtain ⟨a1, a2, a3, a4⟩ := h6.out (by omega)
        exact ⟨2, 0, a1, a2, a3, a4, .inr ⟨rfl, by omega⟩⟩
    have g1 := Lib.hid hs1
    have g2 := Lib.hid hs2
    have g3 := Lib.hid hs3
    have g4 := Lib.hid hs4
    clear hs1 hs2 hs3 hs4 h5 h6
    rcases hE with ⟨rfl, hlt⟩ | ⟨rfl, hge⟩
    all_goals
      go_upto_region 14 with (first
        | (go_at_call 14; (with_reducible show Calls _ _ #[.int .i64 j, _] _ _); refine (mod_any j S bS0 bS1 j0 j1 _).mono ?_; rintro e w' ⟨rfl, rfl⟩; rw [HPP.out])
        | (go_at_call 14; (with_reducible show Calls _ _ #[.int .i64 k, _] _ _); refine (mod_any k S bS0 bS1 k0 k1 _).mono ?_; rintro e w' ⟨rfl, rfl⟩; rw [HQQ.out])
        | (go_at_call 21; (with_reducible show Calls _ _ #[_, _, .int .i64 P] _ _); rw [HPZ.out]; refine (step5_any K _ _ mk d m d' wd F pz P w1 HA2.out HT2.out bp0 bp1 bP0 bP1).mono ?_; rintro e w2 ⟨rfl, hb2⟩; rw [h1.out, h2.out]; have B2 := Lib.hid (B1.out.next hb2); have I2 := Lib.hid (I1.out.next hb2); have r0 := B2.out.cell 0; have r1 := B2.out.cell 1; have r2 := B2.out.cell 2; have rz := B2.out.lt; have t2 := I2.out.cell 2; have tz := I2.out.lt; simp at r0 r1 r2 t2; have HB2 := Lib.hid (below_next HB1.out (Nat.le_refl _) hb2); have HA3 := Lib.hid (HA2.out.next hb2); have HT3 := Lib.hid (HT2.out.next hb2); clear hb2)
        | (go_at_call 23; refine (index5_any K _ _ mk d m d' wd F p X w2 HA3.out HT3.out bX0 bX1).mono ?_; rintro e w3 ⟨rfl, hb3⟩; rw [h3.out, h4.out]; have B3 := Lib.hid (B2.out.next hb3); have I3 := Lib.hid (I2.out.next hb3); have r0 := B3.out.cell 0; have r1 := B3.out.cell 1; have r2 := B3.out.cell 2; have rz := B3.out.lt; have t2 := I3.out.cell 2; have tz := I3.out.lt; simp at r0 r1 r2 t2; have HB3 := Lib.hid (below_next HB2.out (Nat.le_refl _) hb3); have HA4 := Lib.hid (HA3.out.next hb3); have HT4 := Lib.hid (HT3.out.next hb3); clear hb3)
        | (go_at_call 21; (with_reducible show Calls _ _ #[_, _, .int .i64 Q] _ _); refine (step5_any K _ _ mk d m d' wd F X Q w3 HA4.out HT4.out bX0 bX1 bQ0 bQ1).mono ?_; rintro e w4 ⟨rfl, hb4⟩; rw [g1.out, g2.out]; have B4 := Lib.hid (B3.out.next hb4); have I4 := Lib.hid (I3.out.next hb4); have r0 := B4.out.cell 0; have r1 := B4.out.cell 1; have r2 := B4.out.cell 2; have rz := B4.out.lt; have t2 := I4.out.cell 2; have tz := I4.out.lt; simp at r0 r1 r2 t2; have HB4 := Lib.hid (below_next HB3.out (Nat.le_refl _) hb4); have HA5 := Lib.hid (HA4.out.next hb4); have HT5 := Lib.hid (HT4.out.next hb4); clear hb4)
        | (go_at_call 21; (with_reducible show Calls _ _ #[_, _, .int .i64 ((P : Int) + Q)] _ _); rw [HPZ.out]; refine (step5_any K _ _ mk d m d' wd F pz ((P : Int) + Q) w4 HA5.out HT5.out bp0 bp1 bR0 bR1).mono ?_; rintro e w5 ⟨rfl, hb5⟩; rw [g3.out, g4.out]; have B5 := Lib.hid (B4.out.next hb5); have I5 := Lib.hid (I4.out.next hb5); have r0 := B5.out.cell 0; have r1 := B5.out.cell 1; have r2 := B5.out.cell 2; have rz := B5.out.lt; have t2 := I5.out.cell 2; have tz := I5.out.lt; simp at r0 r1 r2 t2; have HB5 := Lib.hid (below_next HB4.out (Nat.le_refl _) hb5); have HA6 := Lib.hid (HA5.out.next hb5); have HT6 := Lib.hid (HT5.out.next hb5); clear hb5))
      go_wp2
      go_ret
      exact ⟨rfl, HB5.out⟩
end Go.Proofs.Ytpbcpobbjoopnaa
