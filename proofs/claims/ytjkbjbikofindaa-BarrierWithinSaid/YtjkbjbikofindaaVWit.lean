/-
  Layer 19: the walk of BarrierWithin.
-/
import Derived.Test.YtjkbjbikofindaaVAwk
import Derived.Test.YtjkbjbikofindaaVAt
import Derived.Test.YtjkbjbikofindaaRSame
import Derived.Test.YtjkbjbikofindaaMWords
import Derived.Test.YtjkbjbikofindaaMChain
namespace Go.Proofs.Ytjkbjbikofindaa
open Go.RowKit
set_option maxRecDepth 100000
set_option linter.unusedVariables false

theorem Blk.set5V {w : World} {b : Nat} {t : TypeId} {a0 a1 a2 a3 a4 : Value} (h : Blk w b t #[a0, a1, a2, a3, a4]) (v0 v1 v2 v3 v4 : Value) : Blk (((((w.setCell ⟨b, 0, none⟩ v0).setCell ⟨b, 1, none⟩ v1).setCell ⟨b, 2, none⟩ v2).setCell ⟨b, 3, none⟩ v3).setCell ⟨b, 4, none⟩ v4) b t #[v0, v1, v2, v3, v4] :=
  ((((h.set_ 0 v0).set_ 1 v1).set_ 2 v2).set_ 3 v3).set_ 4 v4
theorem noteS_val {K nw n : Nat} {F : Nat → Fr} {slot x : Int} {L : List SetR} (hw : nw = n * 2 ^ K) (hn : n ≤ 64) (hL : ValS L) : ValS (noteS K nw F slot x L) := by
  unfold noteS
  split
  · rename_i h
    obtain ⟨h1, h2, h3⟩ := pr_nums hn hw h
    exact putS_ok h1 h2 h3 hL
  · exact hL
theorem drew_cellW {w : World} {p : Addr} {v : Value} (h : w.cell? p = some v) : w.drew.cell? p = some v := h
theorem below_set5V {w w' : World} {B b : Nat} (h : Below B w' w) (hb : B ≤ b) (v0 v1 v2 v3 v4 : Value) : Below B w' (((((w.setCell ⟨b, 0, none⟩ v0).setCell ⟨b, 1, none⟩ v1).setCell ⟨b, 2, none⟩ v2).setCell ⟨b, 3, none⟩ v3).setCell ⟨b, 4, none⟩ v4) :=
  ((((h.setCell (p := ⟨b, 0, none⟩) hb v0).setCell (p := ⟨b, 1, none⟩) hb v1).setCell (p := ⟨b, 2, none⟩) hb v2).setCell (p := ⟨b, 3, none⟩) hb v3).setCell (p := ⟨b, 4, none⟩) hb v4

set_option maxHeartbeats 8000000 in
theorem walkWithin (Al : Option Addr) (nl cl : Nat) (a b i j : Int) (w : World) (hL : ListP w w.heap.size Al nl cl) (a0 : -9223372036854775808 ≤ a) (a1 : a ≤ 9223372036854775807) (b0 : -9223372036854775808 ≤ b) (b1 : b ≤ 9223372036854775807) (i0 : -9223372036854775808 ≤ i) (i1 : i ≤ 9223372036854775807) (j0 : -9223372036854775808 ≤ j) (j1 : j ≤ 9223372036854775807) :
    Calls Try.prog 4 #[.slice Al nl cl, .int .i64 a, .int .i64 b, .int .i64 i, .int .i64 j] w fun e w' => e = .returned (.bool true) ∧ Below w.heap.size w w' := by
  go_enter Try.func4, Try.ntmps4
  go_wp2_with fail
  refine (deck_any Al nl cl w hL).mono ?_
  rintro e U2 ⟨rfl, hd, hb, hz⟩
  have HDK := Lib.hid hd
  have HBU2 := Lib.hid hb
  clear hd hb hL hz
  go_wp2_with fail
  refine (space_any w.heap.size U2 HDK.out).mono ?_
  rintro e U3 ⟨K, m, B, d, gb, d', wd, F, L, rfl, kk0, kk1, m0, m1, hoA, hoT, ⟨hvp, how⟩, ⟨_, I, BI, hBI, hLR, hAll⟩, hG⟩
  have HBU3 := Lib.hid (below_turn HBU2.out hG (Nat.le_refl _))
  have HA3 := Lib.hid hoA.arr
  have HT3 := Lib.hid hoT.tab
  have HVP := Lib.hid hvp
  have HLR := Lib.hid hLR
  have HALL := Lib.hid hAll
  have hN17 := allP_len hAll
  have hmk0 : 0 < m * 2 ^ K := Nat.mul_pos (by omega) (Nat.two_pow_pos K)
  have hmk1 : m * 2 ^ K ≤ 16384 := prod_le (by omega) (by omega)
  obtain ⟨mk, hmk⟩ : ∃ mk, mk = m * 2 ^ K := ⟨_, rfl⟩
  rw [← hmk] at HA3 HVP hmk0 hmk1 ⊢
  obtain ⟨V, hV⟩ : ∃ V, V = U3.alloc (.cells #[.int .i64 K, .slice B mk d, .slice (some ⟨gb, 0, none⟩) m d'] 25) := ⟨_, rfl⟩
  have hbv : Below U3.heap.size U3 V := by rw [hV]; exact (Below.refl _ _).alloc (Nat.le_refl _) _
  have BY := Lib.hid (show Blk V U3.heap.size 25 #[.int .i64 K, .slice B mk d, .slice (some ⟨gb, 0, none⟩) m d'] by rw [hV]; exact Blk.new _ _ _)
  have HBV := Lib.hid (below_next HBU3.out (Nat.le_refl _) hbv)
  have HA := Lib.hid (HA3.out.next hbv)
  have HT := Lib.hid (HT3.out.next hbv)
  have HLV := Lib.hid (HLR.out.below hbv)
  have HV := Lib.hid hV
  have q0 := BY.out.cell 0
  have q1 := BY.out.cell 1
  have q2 := BY.out.cell 2
  have qz := BY.out.lt
  simp at q0 q1 q2
  obtain ⟨AL, cL, eL, hcL⟩ := row_slice HLV.out.1
  subst eL
  clear hV hbv HBU3 HA3 HT3 hG hoA hoT HDK HBU2 hvp how hmk hLR hAll hBI HLR
  go_upto_region 2 with fail
  rw [← HV.out]
  by_cases hN : I.length = 0
  · have hb1 : ((I.length : Int) == 0) = true := by simp [hN]
    clear hN hN17
    go_wp2_with (go_at_call 7; refine (awake19_any V).mono ?_; rintro e w1 ⟨rfl, hb⟩; have HB := Lib.hid (below_next HBV.out (Nat.le_refl _) hb); clear hb)
    go_ret
    exact ⟨rfl, HB.out⟩
  · obtain ⟨N, hNN⟩ : ∃ N, N = I.length := ⟨_, rfl⟩
    have hN0 : 0 < N := by omega
    obtain ⟨t, htt⟩ : ∃ t : Nat, a % (N : Int) = t := ⟨(a % (N : Int)).toNat, by have := Int.emod_nonneg a (show (N : Int) ≠ 0 by omega); omega⟩
    have htN : t < N := by have := Int.emod_lt_of_pos a (show 0 < (N : Int) by omega); omega
    obtain ⟨u, huu⟩ : ∃ u : Nat, b % (N : Int) = u := ⟨(b % (N : Int)).toNat, by have := Int.emod_nonneg b (show (N : Int) ≠ 0 by omega); omega⟩
    have huN : u < N := by have := Int.emod_lt_of_pos b (show 0 < (N : Int) by omega); omega
    obtain ⟨inc, hinc⟩ : ∃ i, I[t]? = some i := ⟨I[t]'(by omega), List.getElem?_eq_getElem (by omega)⟩
    obtain ⟨jnc, hjnc⟩ : ∃ i, I[u]? = some i := ⟨I[u]'(by omega), List.getElem?_eq_getElem (by omega)⟩
    obtain ⟨g, cap, e, hg0, hg1, hgz, c0, c1, c2, c3, c4⟩ := lrow_cells HLV.out hinc
    injection e with e1 e2 e3
    subst e1
    subst e3
    obtain ⟨g', cap', e, _, _, _, d0, d1, d2, d3, d4⟩ := lrow_cells HLV.out hjnc
    injection e with e1 e2 e3
    injection e1 with e1
    injection e1 with e1
    subst e1
    subst e3
    obtain ⟨hP, hwo, hs1, hs2⟩ := HALL.out t inc hinc
    obtain ⟨hP', hwo', hs1', hs2'⟩ := HALL.out u jnc hjnc
    obtain ⟨p, hfi, hpm, hwl, hat⟩ := inc_at HVP.out hP hwo
    obtain ⟨p', hfi', hpm', hwl', hat'⟩ := inc_at HVP.out hP' hwo'
    have hmk2 : m * 2 ^ K ≤ 16384 := prod_le (by omega) (by omega)
    replace hwl : inc.wo ≤ 16384 := by omega
    replace hwl' : jnc.wo ≤ 16384 := by omega
    rw [hfi] at c2
    rw [hfi'] at d2
    have hb1 : ((N : Int) == 0) = false := by simp; omega
    have ht2 : 0 ≤ (t : Int) ∧ (t : Int) < N := by omega
    have hu2 : 0 ≤ (u : Int) ∧ (u : Int) < N := by omega
    rw [← hNN] at hN17 hcL ⊢
    obtain ⟨x0, hx0⟩ : ∃ x, x = inc.sq := ⟨_, rfl⟩
    obtain ⟨x1, hx1⟩ : ∃ x, x = inc.bt := ⟨_, rfl⟩
    obtain ⟨x3, hx3⟩ : ∃ x, x = inc.la := ⟨_, rfl⟩
    obtain ⟨x4, hx4⟩ : ∃ x, x = inc.wo := ⟨_, rfl⟩
    obtain ⟨y0, hy0⟩ : ∃ x, x = jnc.sq := ⟨_, rfl⟩
    obtain ⟨y1, hy1⟩ : ∃ x, x = jnc.bt := ⟨_, rfl⟩
    obtain ⟨y3, hy3⟩ : ∃ x, x = jnc.la := ⟨_, rfl⟩
    obtain ⟨y4, hy4⟩ : ∃ x, x = jnc.wo := ⟨_, rfl⟩
    rw [← hx0] at c0 hP hs1 hs2 hat
    rw [← hx1] at c1 hP hat
    rw [← hx3] at c3
    rw [← hx4] at c4 hwo hat hP hwl
    rw [← hy0] at d0 hP' hs1' hs2' hat'
    rw [← hy1] at d1 hP' hat'
    rw [← hy3] at d3
    rw [← hy4] at d4 hwo' hat' hP' hwl'
    obtain ⟨J, hJJ⟩ : ∃ J : Nat, i % x4 = J := ⟨(i % x4).toNat, by have := Int.emod_nonneg i (show x4 ≠ 0 by omega); omega⟩
    have hJW : (J : Int) < x4 := by have := Int.emod_lt_of_pos i hwo; omega
    obtain ⟨J', hJJ'⟩ : ∃ J' : Nat, j % y4 = J' := ⟨(j % y4).toNat, by have := Int.emod_nonneg j (show y4 ≠ 0 by omega); omega⟩
    have hJW' : (J' : Int) < y4 := by have := Int.emod_lt_of_pos j hwo'; omega
    obtain ⟨fq, fr, fq0, fr0, he1, he2, hfo, hfs⟩ := hat J hJW
    obtain ⟨fq', fr', fq0', fr0', he1', he2', hfo', hfs'⟩ := hat' J' hJW'
    obtain ⟨pp, hpp⟩ : ∃ z : Int, z = ((fq * 2 ^ K + fr : Nat) : Int) := ⟨_, rfl⟩
    obtain ⟨qq, hqq⟩ : ∃ z : Int, z = ((fq' * 2 ^ K + fr' : Nat) : Int) := ⟨_, rfl⟩
    have hnw : mk = m * 2 ^ K := by have := HVP.out.2.2.1; rwa [Int.toNat_natCast] at this
    have hu1 := prB_at (F := F) hnw fq0 fr0 fq0' fr0' (by rw [hfo]; have := hP.1; omega) (by rw [hfo']; have := hP'.1; omega)
    have hu2 := prB_at (F := F) hnw fq0' fr0' fq0 fr0 (by rw [hfo']; have := hP'.1; omega) (by rw [hfo]; have := hP.1; omega)
    rw [← hpp, ← hqq, hfs, hfs'] at hu1 hu2
    have hppb : 0 ≤ pp ∧ pp < 16384 := by
      have := Nat.mul_le_mul_right (2 ^ K) (show fq + 1 ≤ m by omega)
      rw [Nat.add_mul, Nat.one_mul] at this
      omega
    have hqqb : 0 ≤ qq ∧ qq < 16384 := by
      have := Nat.mul_le_mul_right (2 ^ K) (show fq' + 1 ≤ m by omega)
      rw [Nat.add_mul, Nat.one_mul] at this
      omega
    rw [← hpp] at he2
    rw [← hqq] at he2'
    have HE1 := Lib.hid he1
    have HE2 := Lib.hid he2
    have HU1 := Lib.hid hu1
    have HE1' := Lib.hid he1'
    have HE2' := Lib.hid he2'
    have HU2 := Lib.hid hu2
    have HPQ := Lib.hid (And.intro hppb hqqb)
    have HSH := Lib.hid (show min (IntKind.u64.wrap (K : Int)).toNat 64 = K by rw [IntWalk.u64_in _ (by omega)]; omega)
    clear hpp hqq hnw hu1 hu2 hppb hqqb
    have HJ := Lib.hid hJJ
    have HJ' := Lib.hid hJJ'
    have bJ : (J : Int) ≤ 16384 := by omega
    have bJ' : (J' : Int) ≤ 16384 := by omega
    have hpb : 0 ≤ (p : Int) * 2 ^ K ∧ (p : Int) * 2 ^ K ≤ 16384 := prod_bd (by omega) (by omega)
    have hpb' : 0 ≤ (p' : Int) * 2 ^ K ∧ (p' : Int) * 2 ^ K ≤ 16384 := prod_bd (by omega) (by omega)
    clear he1 he2 he1' he2' hfo hfs hfo' hfs' fq0 fr0 fq0' fr0' hJJ hJJ' hJW hJW'
    have HMA := Lib.hid htt
    have HMB := Lib.hid huu
    have HWP := Lib.hid (show IntKind.i64.wrap ((p : Int) * 2 ^ K) = (p : Int) * 2 ^ K from IntWalk.i64_in _ (by omega))
    have HWP' := Lib.hid (show IntKind.i64.wrap ((p' : Int) * 2 ^ K) = (p' : Int) * 2 ^ K from IntWalk.i64_in _ (by omega))
    have HSQ := Lib.hid (show 0 ≤ x0 ∧ x0 ≤ 50 ∧ 0 ≤ x1 ∧ x1 ≤ 2 ∧ 0 ≤ y0 ∧ y0 ≤ 50 ∧ 0 ≤ y1 ∧ y1 ≤ 2 ∧ (x0 = y0 → x1 = y1) from by
      obtain ⟨q1, q2, q3, q4, _⟩ := hP
      obtain ⟨r1, r2, r3, r4, _⟩ := hP'
      refine ⟨q1, q2, q3, q4, r1, r2, r3, r4, fun e => ?_⟩
      have etu : t = u := by omega
      rw [etu, hjnc] at hinc
      injection hinc with hinc
      rw [hx1, hy1, hinc])
    clear hx0 hx1 hx3 hx4 hy0 hy1 hy3 hy4 hP hP' hs1 hs2 hs1' hs2' hat hat' htt huu hinc hjnc hfi hfi' hN hNN hg0 hg1
    go_upto_region 4 with fail
    go_cut [13, 14] (fun P Q wx => ∃ bx bv : Nat, P = .pointer (some ⟨bx, 0, none⟩) ∧ Q = .pointer (some ⟨bv, 0, none⟩) ∧ V.heap.size ≤ bx ∧ V.heap.size ≤ bv ∧ bx ≠ bv ∧ Below V.heap.size V wx ∧ Blk wx bx 51 #[.int .i64 x0, .int .i64 x1, .int .i64 p, .int .i64 x3, .int .i64 x4] ∧ Blk wx bv 51 #[.int .i64 y0, .int .i64 y1, .int .i64 p', .int .i64 y3, .int .i64 y4])
    case first =>
      refine wp_region_held_drew (S := (fun w' => w'.cell? ⟨g, t * 5, none⟩ = some (.int .i64 x0) ∧ w'.cell? ⟨g, t * 5 + 1, none⟩ = some (.int .i64 x1) ∧ w'.cell? ⟨g, t * 5 + 2, none⟩ = some (.int .i64 p) ∧ w'.cell? ⟨g, t * 5 + 3, none⟩ = some (.int .i64 x3) ∧ w'.cell? ⟨g, t * 5 + 4, none⟩ = some (.int .i64 x4) ∧ w'.cell? ⟨g, u * 5, none⟩ = some (.int .i64 y0) ∧ w'.cell? ⟨g, u * 5 + 1, none⟩ = some (.int .i64 y1) ∧ w'.cell? ⟨g, u * 5 + 2, none⟩ = some (.int .i64 p') ∧ w'.cell? ⟨g, u * 5 + 3, none⟩ = some (.int .i64 y3) ∧ w'.cell? ⟨g, u * 5 + 4, none⟩ = some (.int .i64 y4))) (by kernel_rfl) ?_ (fun hHeld => ?_)
      · exact ⟨c0, c1, c2, c3, c4, d0, d1, d2, d3, d4⟩
      (refine wpAnyH_take (i := 0) (v := ?_) rfl (by kernel_rfl) (by kernel_rfl) (by kernel_rfl) (fun _ _ _ h => h) (Or.inl ⟨by rfl, ?_⟩) (by assumption) ?_; rotate_left 1; (focus (rintro w' ⟨k0, k1, k2, k3, k4, l0, l1, l2, l3, l4⟩; go_simp; (try with_reducible rfl); done)); try simp only [Act.put, List.setIfInBounds_toArray, List.set_cons_zero, List.set_cons_succ, List.getElem_toArray, List.getElem_cons_zero])
      (refine wpAnyH_take (i := 1) (v := ?_) rfl (by kernel_rfl) (by kernel_rfl) (by kernel_rfl) (fun _ _ _ h => h) (Or.inl ⟨by rfl, ?_⟩) (by assumption) ?_; rotate_left 1; (focus (rintro w' ⟨k0, k1, k2, k3, k4, l0, l1, l2, l3, l4⟩; go_simp; (try with_reducible rfl); done)); try simp only [Act.put, List.setIfInBounds_toArray, List.set_cons_zero, List.set_cons_succ, List.getElem_toArray, List.getElem_cons_zero, List.getElem_cons_succ])
      (refine wpAnyH_take (i := 2) (v := ?_) rfl (by kernel_rfl) (by kernel_rfl) (by kernel_rfl) (fun _ _ _ h => h) (Or.inl ⟨by rfl, ?_⟩) (by assumption) ?_; rotate_left 1; (focus (rintro w' ⟨k0, k1, k2, k3, k4, l0, l1, l2, l3, l4⟩; go_simp; (try with_reducible rfl); done)); try simp only [Act.put, List.setIfInBounds_toArray, List.set_cons_zero, List.set_cons_succ, List.getElem_toArray, List.getElem_cons_zero, List.getElem_cons_succ])
      (refine wpAnyH_take (i := 3) (v := ?_) rfl (by kernel_rfl) (by kernel_rfl) (by kernel_rfl) (fun _ _ _ h => h) (Or.inl ⟨by rfl, ?_⟩) (by assumption) ?_; rotate_left 1; (focus (rintro w' ⟨k0, k1, k2, k3, k4, l0, l1, l2, l3, l4⟩; go_simp; (try with_reducible rfl); done)); try simp only [Act.put, List.setIfInBounds_toArray, List.set_cons_zero, List.set_cons_succ, List.getElem_toArray, List.getElem_cons_zero, List.getElem_cons_succ])
      (refine wpAnyH_take (i := 7) (v := ?_) rfl (by kernel_rfl) (by kernel_rfl) (by kernel_rfl) (fun _ _ _ h => h) (Or.inl ⟨by rfl, ?_⟩) (by assumption) ?_; rotate_left 1; (focus (rintro w' ⟨k0, k1, k2, k3, k4, l0, l1, l2, l3, l4⟩; go_simp; (try with_reducible rfl); done)); try simp only [Act.put, List.setIfInBounds_toArray, List.set_cons_zero, List.set_cons_succ, List.getElem_toArray, List.getElem_cons_zero, List.getElem_cons_succ])
      (refine wpAnyH_take (i := 8) (v := ?_) rfl (by kernel_rfl) (by kernel_rfl) (by kernel_rfl) (fun _ _ _ h => h) (Or.inl ⟨by rfl, ?_⟩) (by assumption) ?_; rotate_left 1; (focus (rintro w' ⟨k0, k1, k2, k3, k4, l0, l1, l2, l3, l4⟩; go_simp; (try with_reducible rfl); done)); try simp only [Act.put, List.setIfInBounds_toArray, List.set_cons_zero, List.set_cons_succ, List.getElem_toArray, List.getElem_cons_zero, List.getElem_cons_succ])
      (refine wpAnyH_take (i := 9) (v := ?_) rfl (by kernel_rfl) (by kernel_rfl) (by kernel_rfl) (fun _ _ _ h => h) (Or.inl ⟨by rfl, ?_⟩) (by assumption) ?_; rotate_left 1; (focus (rintro w' ⟨k0, k1, k2, k3, k4, l0, l1, l2, l3, l4⟩; go_simp; (try with_reducible rfl); done)); try simp only [Act.put, List.setIfInBounds_toArray, List.set_cons_zero, List.set_cons_succ, List.getElem_toArray, List.getElem_cons_zero, List.getElem_cons_succ])
      (refine wpAnyH_take (i := 10) (v := ?_) rfl (by kernel_rfl) (by kernel_rfl) (by kernel_rfl) (fun _ _ _ h => h) (Or.inl ⟨by rfl, ?_⟩) (by assumption) ?_; rotate_left 1; (focus (rintro w' ⟨k0, k1, k2, k3, k4, l0, l1, l2, l3, l4⟩; go_simp; (try with_reducible rfl); done)); try simp only [Act.put, List.setIfInBounds_toArray, List.set_cons_zero, List.set_cons_succ, List.getElem_toArray, List.getElem_cons_zero, List.getElem_cons_succ])
      have gz0 : g < V.drew.heap.size := hgz
      have hc0 : Below V.heap.size V V.drew := (Below.refl V.heap.size V).drew
      refine wpAnyH_ready (rs := [4, 14, 15]) (by kernel_rfl) (by simp) ?_
      refine (AllReadyH.cons rfl (fun KK hK => ?_) (AllReadyH.cons rfl (fun KK hK => ?_) (AllReadyH.cons rfl (fun KK hK => ?_) AllReadyH.nil)))
      · go_simp
        go_at_call 11
        refine (mod_any a N (by omega) (by omega) a0 a1 _).mono ?_
        rintro e w' ⟨rfl, rfl⟩
        rw [HMA.out]
        go_wp2_with fail
        refine hK.out _ _ ⟨c0, c1, c2, c3, c4, d0, d1, d2, d3, d4⟩ (fun hHeld2 => ?_)
        clear hK KK hHeld
        have hHeld := hHeld2
        clear hHeld2
        try simp only [Act.put, List.setIfInBounds_toArray, List.set_cons_zero, List.set_cons_succ, List.getElem_toArray, List.getElem_cons_zero, List.getElem_cons_succ]
        (refine wpAnyH_take (i := 5) (v := ?_) rfl (by kernel_rfl) (by kernel_rfl) (by kernel_rfl) (fun _ _ _ h => h) (Or.inl ⟨by rfl, ?_⟩) (by assumption) ?_; rotate_left 1; (focus (rintro w' ⟨k0, k1, k2, k3, k4, l0, l1, l2, l3, l4⟩; go_simp; (try with_reducible rfl); done)); try simp only [Act.put, List.setIfInBounds_toArray, List.set_cons_zero, List.set_cons_succ, List.getElem_toArray, List.getElem_cons_zero, List.getElem_cons_succ])
        (refine wpAnyH_take (i := 6) (v := ?_) rfl (by kernel_rfl) (by kernel_rfl) (by kernel_rfl) (fun _ _ _ h => h) (Or.inl ⟨by rfl, ?_⟩) (by assumption) ?_; rotate_left 1; (focus (rintro w' ⟨k0, k1, k2, k3, k4, l0, l1, l2, l3, l4⟩; go_simp; (try with_reducible rfl); done)); try simp only [Act.put, List.setIfInBounds_toArray, List.set_cons_zero, List.set_cons_succ, List.getElem_toArray, List.getElem_cons_zero, List.getElem_cons_succ])
        refine wpAnyH_ready (rs := [11, 14, 15]) (by kernel_rfl) (by simp) ?_
        refine (AllReadyH.cons rfl (fun KK hK => ?_) (AllReadyH.cons rfl (fun KK hK => ?_) (AllReadyH.cons rfl (fun KK hK => ?_) AllReadyH.nil)))
        · go_simp
          go_at_call 11
          refine (mod_any b N (by omega) (by omega) b0 b1 _).mono ?_
          rintro e w' ⟨rfl, rfl⟩
          rw [HMB.out]
          go_wp2_with fail
          refine hK.out _ _ ⟨c0, c1, c2, c3, c4, d0, d1, d2, d3, d4⟩ (fun hHeld2 => ?_)
          clear hK KK hHeld
          have hHeld := hHeld2
          clear hHeld2
          try simp only [Act.put, List.setIfInBounds_toArray, List.set_cons_zero, List.set_cons_succ, List.getElem_toArray, List.getElem_cons_zero, List.getElem_cons_succ]
          (refine wpAnyH_take (i := 12) (v := ?_) rfl (by kernel_rfl) (by kernel_rfl) (by kernel_rfl) (fun _ _ _ h => h) (Or.inl ⟨by rfl, ?_⟩) (by assumption) ?_; rotate_left 1; (focus (rintro w' ⟨k0, k1, k2, k3, k4, l0, l1, l2, l3, l4⟩; go_simp; (try with_reducible rfl); done)); try simp only [Act.put, List.setIfInBounds_toArray, List.set_cons_zero, List.set_cons_succ, List.getElem_toArray, List.getElem_cons_zero, List.getElem_cons_succ])
          (refine wpAnyH_take (i := 13) (v := ?_) rfl (by kernel_rfl) (by kernel_rfl) (by kernel_rfl) (fun _ _ _ h => h) (Or.inl ⟨by rfl, ?_⟩) (by assumption) ?_; rotate_left 1; (focus (rintro w' ⟨k0, k1, k2, k3, k4, l0, l1, l2, l3, l4⟩; go_simp; (try with_reducible rfl); done)); try simp only [Act.put, List.setIfInBounds_toArray, List.set_cons_zero, List.set_cons_succ, List.getElem_toArray, List.getElem_cons_zero, List.getElem_cons_succ])
          refine wpAnyH_ready (rs := [14, 15]) (by kernel_rfl) (by simp) ?_
          refine (AllReadyH.cons rfl (fun KK hK => ?_) (AllReadyH.cons rfl (fun KK hK => ?_) AllReadyH.nil))
          · go_simp
            obtain ⟨X3, hX3⟩ : ∃ W', W' = World.drew (World.alloc V (.cells #[.int .i64 0, .int .i64 0, .int .i64 0, .int .i64 0, .int .i64 0] 51)) := ⟨_, rfl⟩
            rw [← hX3]
            replace hX3 : X3 = World.alloc V.drew (.cells #[.int .i64 0, .int .i64 0, .int .i64 0, .int .i64 0, .int .i64 0] 51) := hX3
            have bX3 : Below V.drew.heap.size V.drew X3 := by rw [hX3]; exact (Below.refl _ _).alloc (Nat.le_refl _) _
            have B14 : Blk X3 V.heap.size 51 #[.int .i64 0, .int .i64 0, .int .i64 0, .int .i64 0, .int .i64 0] := by rw [hX3]; exact Blk.new _ _ _
            have zX3 := bX3.size
            have gz3 : g < X3.heap.size := Nat.lt_of_lt_of_le gz0 zX3
            have c0 := (bX3.cell (p := ⟨g, t * 5, none⟩) gz0).trans c0
            have c1 := (bX3.cell (p := ⟨g, t * 5 + 1, none⟩) gz0).trans c1
            have c2 := (bX3.cell (p := ⟨g, t * 5 + 2, none⟩) gz0).trans c2
            have c3 := (bX3.cell (p := ⟨g, t * 5 + 3, none⟩) gz0).trans c3
            have c4 := (bX3.cell (p := ⟨g, t * 5 + 4, none⟩) gz0).trans c4
            have d0 := (bX3.cell (p := ⟨g, u * 5, none⟩) gz0).trans d0
            have d1 := (bX3.cell (p := ⟨g, u * 5 + 1, none⟩) gz0).trans d1
            have d2 := (bX3.cell (p := ⟨g, u * 5 + 2, none⟩) gz0).trans d2
            have d3 := (bX3.cell (p := ⟨g, u * 5 + 3, none⟩) gz0).trans d3
            have d4 := (bX3.cell (p := ⟨g, u * 5 + 4, none⟩) gz0).trans d4
            have hc3 := below_next hc0 (Nat.le_refl _) bX3
            have zc14 : V.heap.size ≤ V.heap.size := hc0.size
            have B140 := B14.lt
            clear hX3
            refine hK.out _ _ ⟨c0, c1, c2, c3, c4, d0, d1, d2, d3, d4⟩ (fun hHeld2 => ?_)
            clear hK KK hHeld
            have hHeld := hHeld2
            clear hHeld2
            try simp only [Act.put, List.setIfInBounds_toArray, List.set_cons_zero, List.set_cons_succ, List.getElem_toArray, List.getElem_cons_zero, List.getElem_cons_succ]
            refine wpAnyH_ready (rs := [15]) (by kernel_rfl) (by simp) ?_
            refine (AllReadyH.cons rfl (fun KK hK => ?_) AllReadyH.nil)
            · go_simp
              obtain ⟨X4, hX4⟩ : ∃ W', W' = World.alloc X3 (.cells #[.int .i64 0, .int .i64 0, .int .i64 0, .int .i64 0, .int .i64 0] 51) := ⟨_, rfl⟩
              rw [← hX4]
              have bX4 : Below X3.heap.size X3 X4 := by rw [hX4]; exact (Below.refl _ _).alloc (Nat.le_refl _) _
              have B15 : Blk X4 X3.heap.size 51 #[.int .i64 0, .int .i64 0, .int .i64 0, .int .i64 0, .int .i64 0] := by rw [hX4]; exact Blk.new _ _ _
              have B14 := B14.next bX4
              have zX4 := bX4.size
              have gz4 : g < X4.heap.size := Nat.lt_of_lt_of_le gz3 zX4
              have c0 := (bX4.cell (p := ⟨g, t * 5, none⟩) gz3).trans c0
              have c1 := (bX4.cell (p := ⟨g, t * 5 + 1, none⟩) gz3).trans c1
              have c2 := (bX4.cell (p := ⟨g, t * 5 + 2, none⟩) gz3).trans c2
              have c3 := (bX4.cell (p := ⟨g, t * 5 + 3, none⟩) gz3).trans c3
              have c4 := (bX4.cell (p := ⟨g, t * 5 + 4, none⟩) gz3).trans c4
              have d0 := (bX4.cell (p := ⟨g, u * 5, none⟩) gz3).trans d0
              have d1 := (bX4.cell (p := ⟨g, u * 5 + 1, none⟩) gz3).trans d1
              have d2 := (bX4.cell (p := ⟨g, u * 5 + 2, none⟩) gz3).trans d2
              have d3 := (bX4.cell (p := ⟨g, u * 5 + 3, none⟩) gz3).trans d3
              have d4 := (bX4.cell (p := ⟨g, u * 5 + 4, none⟩) gz3).trans d4
              have hc4 := below_next hc3 (Nat.le_refl _) bX4
              have zc15 : V.heap.size ≤ X3.heap.size := hc3.size
              have nn : V.heap.size ≠ X3.heap.size := by have := B140; omega
              clear hX4
              refine hK.out _ _ ⟨c0, c1, c2, c3, c4, d0, d1, d2, d3, d4⟩ (fun hHeld2 => ?_)
              clear hK KK hHeld
              have hHeld := hHeld2
              clear hHeld2
              try simp only [Act.put, List.setIfInBounds_toArray, List.set_cons_zero, List.set_cons_succ, List.getElem_toArray, List.getElem_cons_zero, List.getElem_cons_succ]
              have s0 := B14.cell 0
              have s1 := B14.cell 1
              have s2 := B14.cell 2
              have s3 := B14.cell 3
              have s4 := B14.cell 4
              have f0 := B14.frozen 0
              have f1 := B14.frozen 1
              have f2 := B14.frozen 2
              have f3 := B14.frozen 3
              have f4 := B14.frozen 4
              simp at s0 s1 s2 s3 s4
              refine wpAnyH_ready (rs := [16]) (by kernel_rfl) (by simp) ?_
              refine AllReadyH.cons rfl (fun KK hK => ?_) AllReadyH.nil
              go_simp
              obtain ⟨Z16, hZ16⟩ : ∃ W', W' = (((((X4.setCell ⟨V.heap.size, 0, none⟩ (.int .i64 x0)).setCell ⟨V.heap.size, 1, none⟩ (.int .i64 x1)).setCell ⟨V.heap.size, 2, none⟩ (.int .i64 p)).setCell ⟨V.heap.size, 3, none⟩ (.int .i64 x3)).setCell ⟨V.heap.size, 4, none⟩ (.int .i64 x4)) := ⟨_, rfl⟩
              rw [← hZ16]
              have bZ16 : Below V.heap.size X4 Z16 := by rw [hZ16]; exact below_set5V (Below.refl _ _) zc14 _ _ _ _ _
              have B14 : Blk Z16 V.heap.size 51 #[.int .i64 x0, .int .i64 x1, .int .i64 p, .int .i64 x3, .int .i64 x4] := by rw [hZ16]; exact B14.set5V _ _ _ _ _
              have B15 : Blk Z16 X3.heap.size 51 #[.int .i64 0, .int .i64 0, .int .i64 0, .int .i64 0, .int .i64 0] := by rw [hZ16]; exact B15.turn5 (nn.symm) _ _ _ _ _
              have hcz16 := hc4.trans bZ16
              clear hZ16 s0 s1 s2 s3 s4 f0 f1 f2 f3 f4
              have c0 := (bZ16.cell (p := ⟨g, t * 5, none⟩) hgz).trans c0
              have c1 := (bZ16.cell (p := ⟨g, t * 5 + 1, none⟩) hgz).trans c1
              have c2 := (bZ16.cell (p := ⟨g, t * 5 + 2, none⟩) hgz).trans c2
              have c3 := (bZ16.cell (p := ⟨g, t * 5 + 3, none⟩) hgz).trans c3
              have c4 := (bZ16.cell (p := ⟨g, t * 5 + 4, none⟩) hgz).trans c4
              have d0 := (bZ16.cell (p := ⟨g, u * 5, none⟩) hgz).trans d0
              have d1 := (bZ16.cell (p := ⟨g, u * 5 + 1, none⟩) hgz).trans d1
              have d2 := (bZ16.cell (p := ⟨g, u * 5 + 2, none⟩) hgz).trans d2
              have d3 := (bZ16.cell (p := ⟨g, u * 5 + 3, none⟩) hgz).trans d3
              have d4 := (bZ16.cell (p := ⟨g, u * 5 + 4, none⟩) hgz).trans d4
              refine hK.out _ _ ⟨c0, c1, c2, c3, c4, d0, d1, d2, d3, d4⟩ (fun hHeld2 => ?_)
              clear hK KK hHeld
              have hHeld := hHeld2
              clear hHeld2
              try simp only [Act.put, List.setIfInBounds_toArray, List.set_cons_zero, List.set_cons_succ, List.getElem_toArray, List.getElem_cons_zero, List.getElem_cons_succ]
              have s0 := B15.cell 0
              have s1 := B15.cell 1
              have s2 := B15.cell 2
              have s3 := B15.cell 3
              have s4 := B15.cell 4
              have f0 := B15.frozen 0
              have f1 := B15.frozen 1
              have f2 := B15.frozen 2
              have f3 := B15.frozen 3
              have f4 := B15.frozen 4
              simp at s0 s1 s2 s3 s4
              refine wpAnyH_ready (rs := [17]) (by kernel_rfl) (by simp) ?_
              refine AllReadyH.cons rfl (fun KK hK => ?_) AllReadyH.nil
              go_simp
              obtain ⟨Z17, hZ17⟩ : ∃ W', W' = (((((Z16.setCell ⟨X3.heap.size, 0, none⟩ (.int .i64 y0)).setCell ⟨X3.heap.size, 1, none⟩ (.int .i64 y1)).setCell ⟨X3.heap.size, 2, none⟩ (.int .i64 p')).setCell ⟨X3.heap.size, 3, none⟩ (.int .i64 y3)).setCell ⟨X3.heap.size, 4, none⟩ (.int .i64 y4)) := ⟨_, rfl⟩
              rw [← hZ17]
              have bZ17 : Below V.heap.size Z16 Z17 := by rw [hZ17]; exact below_set5V (Below.refl _ _) zc15 _ _ _ _ _
              have B15 : Blk Z17 X3.heap.size 51 #[.int .i64 y0, .int .i64 y1, .int .i64 p', .int .i64 y3, .int .i64 y4] := by rw [hZ17]; exact B15.set5V _ _ _ _ _
              have B14 : Blk Z17 V.heap.size 51 #[.int .i64 x0, .int .i64 x1, .int .i64 p, .int .i64 x3, .int .i64 x4] := by rw [hZ17]; exact B14.turn5 (nn) _ _ _ _ _
              have hcz17 := hcz16.trans bZ17
              clear hZ17 s0 s1 s2 s3 s4 f0 f1 f2 f3 f4
              have c0 := (bZ17.cell (p := ⟨g, t * 5, none⟩) hgz).trans c0
              have c1 := (bZ17.cell (p := ⟨g, t * 5 + 1, none⟩) hgz).trans c1
              have c2 := (bZ17.cell (p := ⟨g, t * 5 + 2, none⟩) hgz).trans c2
              have c3 := (bZ17.cell (p := ⟨g, t * 5 + 3, none⟩) hgz).trans c3
              have c4 := (bZ17.cell (p := ⟨g, t * 5 + 4, none⟩) hgz).trans c4
              have d0 := (bZ17.cell (p := ⟨g, u * 5, none⟩) hgz).trans d0
              have d1 := (bZ17.cell (p := ⟨g, u * 5 + 1, none⟩) hgz).trans d1
              have d2 := (bZ17.cell (p := ⟨g, u * 5 + 2, none⟩) hgz).trans d2
              have d3 := (bZ17.cell (p := ⟨g, u * 5 + 3, none⟩) hgz).trans d3
              have d4 := (bZ17.cell (p := ⟨g, u * 5 + 4, none⟩) hgz).trans d4
              refine hK.out _ _ ⟨c0, c1, c2, c3, c4, d0, d1, d2, d3, d4⟩ (fun hHeld2 => ?_)
              clear hK KK hHeld
              have hHeld := hHeld2
              clear hHeld2
              try simp only [Act.put, List.setIfInBounds_toArray, List.set_cons_zero, List.set_cons_succ, List.getElem_toArray, List.getElem_cons_zero, List.getElem_cons_succ]
              refine wpAnyH_done (by kernel_rfl) ?_ _
              clear hHeld
              go_wp2
              go_meet
              exact ⟨V.heap.size, X3.heap.size, rfl, rfl, zc14, zc15, nn, hcz17, B14, B15⟩
          · go_simp
            obtain ⟨X3, hX3⟩ : ∃ W', W' = World.drew (World.alloc V (.cells #[.int .i64 0, .int .i64 0, .int .i64 0, .int .i64 0, .int .i64 0] 51)) := ⟨_, rfl⟩
            rw [← hX3]
            replace hX3 : X3 = World.alloc V.drew (.cells #[.int .i64 0, .int .i64 0, .int .i64 0, .int .i64 0, .int .i64 0] 51) := hX3
            have bX3 : Below V.drew.heap.size V.drew X3 := by rw [hX3]; exact (Below.refl _ _).alloc (Nat.le_refl _) _
            have B15 : Blk X3 V.heap.size 51 #[.int .i64 0, .int .i64 0, .int .i64 0, .int .i64 0, .int .i64 0] := by rw [hX3]; exact Blk.new _ _ _
            have zX3 := bX3.size
            have gz3 : g < X3.heap.size := Nat.lt_of_lt_of_le gz0 zX3
            have c0 := (bX3.cell (p := ⟨g, t * 5, none⟩) gz0).trans c0
            have c1 := (bX3.cell (p := ⟨g, t * 5 + 1, none⟩) gz0).trans c1
            have c2 := (bX3.cell (p := ⟨g, t * 5 + 2, none⟩) gz0).trans c2
            have c3 := (bX3.cell (p := ⟨g, t * 5 + 3, none⟩) gz0).trans c3
            have c4 := (bX3.cell (p := ⟨g, t * 5 + 4, none⟩) gz0).trans c4
            have d0 := (bX3.cell (p := ⟨g, u * 5, none⟩) gz0).trans d0
            have d1 := (bX3.cell (p := ⟨g, u * 5 + 1, none⟩) gz0).trans d1
            have d2 := (bX3.cell (p := ⟨g, u * 5 + 2, none⟩) gz0).trans d2
            have d3 := (bX3.cell (p := ⟨g, u * 5 + 3, none⟩) gz0).trans d3
            have d4 := (bX3.cell (p := ⟨g, u * 5 + 4, none⟩) gz0).trans d4
            have hc3 := below_next hc0 (Nat.le_refl _) bX3
            have zc15 : V.heap.size ≤ V.heap.size := hc0.size
            have B150 := B15.lt
            clear hX3
            refine hK.out _ _ ⟨c0, c1, c2, c3, c4, d0, d1, d2, d3, d4⟩ (fun hHeld2 => ?_)
            clear hK KK hHeld
            have hHeld := hHeld2
            clear hHeld2
            try simp only [Act.put, List.setIfInBounds_toArray, List.set_cons_zero, List.set_cons_succ, List.getElem_toArray, List.getElem_cons_zero, List.getElem_cons_succ]
            refine wpAnyH_ready (rs := [14]) (by kernel_rfl) (by simp) ?_
            refine (AllReadyH.cons rfl (fun KK hK => ?_) AllReadyH.nil)
            · go_simp
              obtain ⟨X4, hX4⟩ : ∃ W', W' = World.alloc X3 (.cells #[.int .i64 0, .int .i64 0, .int .i64 0, .int .i64 0, .int .i64 0] 51) := ⟨_, rfl⟩
              rw [← hX4]
              have bX4 : Below X3.heap.size X3 X4 := by rw [hX4]; exact (Below.refl _ _).alloc (Nat.le_refl _) _
              have B14 : Blk X4 X3.heap.size 51 #[.int .i64 0, .int .i64 0, .int .i64 0, .int .i64 0, .int .i64 0] := by rw [hX4]; exact Blk.new _ _ _
              have B15 := B15.next bX4
              have zX4 := bX4.size
              have gz4 : g < X4.heap.size := Nat.lt_of_lt_of_le gz3 zX4
              have c0 := (bX4.cell (p := ⟨g, t * 5, none⟩) gz3).trans c0
              have c1 := (bX4.cell (p := ⟨g, t * 5 + 1, none⟩) gz3).trans c1
              have c2 := (bX4.cell (p := ⟨g, t * 5 + 2, none⟩) gz3).trans c2
              have c3 := (bX4.cell (p := ⟨g, t * 5 + 3, none⟩) gz3).trans c3
              have c4 := (bX4.cell (p := ⟨g, t * 5 + 4, none⟩) gz3).trans c4
              have d0 := (bX4.cell (p := ⟨g, u * 5, none⟩) gz3).trans d0
              have d1 := (bX4.cell (p := ⟨g, u * 5 + 1, none⟩) gz3).trans d1
              have d2 := (bX4.cell (p := ⟨g, u * 5 + 2, none⟩) gz3).trans d2
              have d3 := (bX4.cell (p := ⟨g, u * 5 + 3, none⟩) gz3).trans d3
              have d4 := (bX4.cell (p := ⟨g, u * 5 + 4, none⟩) gz3).trans d4
              have hc4 := below_next hc3 (Nat.le_refl _) bX4
              have zc14 : V.heap.size ≤ X3.heap.size := hc3.size
              have nn : V.heap.size ≠ X3.heap.size := by have := B150; omega
              clear hX4
              refine hK.out _ _ ⟨c0, c1, c2, c3, c4, d0, d1, d2, d3, d4⟩ (fun hHeld2 => ?_)
              clear hK KK hHeld
              have hHeld := hHeld2
              clear hHeld2
              try simp only [Act.put, List.setIfInBounds_toArray, List.set_cons_zero, List.set_cons_succ, List.getElem_toArray, List.getElem_cons_zero, List.getElem_cons_succ]
              have s0 := B14.cell 0
              have s1 := B14.cell 1
              have s2 := B14.cell 2
              have s3 := B14.cell 3
              have s4 := B14.cell 4
              have f0 := B14.frozen 0
              have f1 := B14.frozen 1
              have f2 := B14.frozen 2
              have f3 := B14.frozen 3
              have f4 := B14.frozen 4
              simp at s0 s1 s2 s3 s4
              refine wpAnyH_ready (rs := [16]) (by kernel_rfl) (by simp) ?_
              refine AllReadyH.cons rfl (fun KK hK => ?_) AllReadyH.nil
              go_simp
              obtain ⟨Z16, hZ16⟩ : ∃ W', W' = (((((X4.setCell ⟨X3.heap.size, 0, none⟩ (.int .i64 x0)).setCell ⟨X3.heap.size, 1, none⟩ (.int .i64 x1)).setCell ⟨X3.heap.size, 2, none⟩ (.int .i64 p)).setCell ⟨X3.heap.size, 3, none⟩ (.int .i64 x3)).setCell ⟨X3.heap.size, 4, none⟩ (.int .i64 x4)) := ⟨_, rfl⟩
              rw [← hZ16]
              have bZ16 : Below V.heap.size X4 Z16 := by rw [hZ16]; exact below_set5V (Below.refl _ _) zc14 _ _ _ _ _
              have B14 : Blk Z16 X3.heap.size 51 #[.int .i64 x0, .int .i64 x1, .int .i64 p, .int .i64 x3, .int .i64 x4] := by rw [hZ16]; exact B14.set5V _ _ _ _ _
              have B15 : Blk Z16 V.heap.size 51 #[.int .i64 0, .int .i64 0, .int .i64 0, .int .i64 0, .int .i64 0] := by rw [hZ16]; exact B15.turn5 (nn.symm.symm) _ _ _ _ _
              have hcz16 := hc4.trans bZ16
              clear hZ16 s0 s1 s2 s3 s4 f0 f1 f2 f3 f4
              have c0 := (bZ16.cell (p := ⟨g, t * 5, none⟩) hgz).trans c0
              have c1 := (bZ16.cell (p := ⟨g, t * 5 + 1, none⟩) hgz).trans c1
              have c2 := (bZ16.cell (p := ⟨g, t * 5 + 2, none⟩) hgz).trans c2
              have c3 := (bZ16.cell (p := ⟨g, t * 5 + 3, none⟩) hgz).trans c3
              have c4 := (bZ16.cell (p := ⟨g, t * 5 + 4, none⟩) hgz).trans c4
              have d0 := (bZ16.cell (p := ⟨g, u * 5, none⟩) hgz).trans d0
              have d1 := (bZ16.cell (p := ⟨g, u * 5 + 1, none⟩) hgz).trans d1
              have d2 := (bZ16.cell (p := ⟨g, u * 5 + 2, none⟩) hgz).trans d2
              have d3 := (bZ16.cell (p := ⟨g, u * 5 + 3, none⟩) hgz).trans d3
              have d4 := (bZ16.cell (p := ⟨g, u * 5 + 4, none⟩) hgz).trans d4
              refine hK.out _ _ ⟨c0, c1, c2, c3, c4, d0, d1, d2, d3, d4⟩ (fun hHeld2 => ?_)
              clear hK KK hHeld
              have hHeld := hHeld2
              clear hHeld2
              try simp only [Act.put, List.setIfInBounds_toArray, List.set_cons_zero, List.set_cons_succ, List.getElem_toArray, List.getElem_cons_zero, List.getElem_cons_succ]
              have s0 := B15.cell 0
              have s1 := B15.cell 1
              have s2 := B15.cell 2
              have s3 := B15.cell 3
              have s4 := B15.cell 4
              have f0 := B15.frozen 0
              have f1 := B15.frozen 1
              have f2 := B15.frozen 2
              have f3 := B15.frozen 3
              have f4 := B15.frozen 4
              simp at s0 s1 s2 s3 s4
              refine wpAnyH_ready (rs := [17]) (by kernel_rfl) (by simp) ?_
              refine AllReadyH.cons rfl (fun KK hK => ?_) AllReadyH.nil
              go_simp
              obtain ⟨Z17, hZ17⟩ : ∃ W', W' = (((((Z16.setCell ⟨V.heap.size, 0, none⟩ (.int .i64 y0)).setCell ⟨V.heap.size, 1, none⟩ (.int .i64 y1)).setCell ⟨V.heap.size, 2, none⟩ (.int .i64 p')).setCell ⟨V.heap.size, 3, none⟩ (.int .i64 y3)).setCell ⟨V.heap.size, 4, none⟩ (.int .i64 y4)) := ⟨_, rfl⟩
              rw [← hZ17]
              have bZ17 : Below V.heap.size Z16 Z17 := by rw [hZ17]; exact below_set5V (Below.refl _ _) zc15 _ _ _ _ _
              have B15 : Blk Z17 V.heap.size 51 #[.int .i64 y0, .int .i64 y1, .int .i64 p', .int .i64 y3, .int .i64 y4] := by rw [hZ17]; exact B15.set5V _ _ _ _ _
              have B14 : Blk Z17 X3.heap.size 51 #[.int .i64 x0, .int .i64 x1, .int .i64 p, .int .i64 x3, .int .i64 x4] := by rw [hZ17]; exact B14.turn5 (nn.symm) _ _ _ _ _
              have hcz17 := hcz16.trans bZ17
              clear hZ17 s0 s1 s2 s3 s4 f0 f1 f2 f3 f4
              have c0 := (bZ17.cell (p := ⟨g, t * 5, none⟩) hgz).trans c0
              have c1 := (bZ17.cell (p := ⟨g, t * 5 + 1, none⟩) hgz).trans c1
              have c2 := (bZ17.cell (p := ⟨g, t * 5 + 2, none⟩) hgz).trans c2
              have c3 := (bZ17.cell (p := ⟨g, t * 5 + 3, none⟩) hgz).trans c3
              have c4 := (bZ17.cell (p := ⟨g, t * 5 + 4, none⟩) hgz).trans c4
              have d0 := (bZ17.cell (p := ⟨g, u * 5, none⟩) hgz).trans d0
              have d1 := (bZ17.cell (p := ⟨g, u * 5 + 1, none⟩) hgz).trans d1
              have d2 := (bZ17.cell (p := ⟨g, u * 5 + 2, none⟩) hgz).trans d2
              have d3 := (bZ17.cell (p := ⟨g, u * 5 + 3, none⟩) hgz).trans d3
              have d4 := (bZ17.cell (p := ⟨g, u * 5 + 4, none⟩) hgz).trans d4
              refine hK.out _ _ ⟨c0, c1, c2, c3, c4, d0, d1, d2, d3, d4⟩ (fun hHeld2 => ?_)
              clear hK KK hHeld
              have hHeld := hHeld2
              clear hHeld2
              try simp only [Act.put, List.setIfInBounds_toArray, List.set_cons_zero, List.set_cons_succ, List.getElem_toArray, List.getElem_cons_zero, List.getElem_cons_succ]
              refine wpAnyH_done (by kernel_rfl) ?_ _
              clear hHeld
              go_wp2
              go_meet
              exact ⟨X3.heap.size, V.heap.size, rfl, rfl, zc14, zc15, nn.symm, hcz17, B14, B15⟩
        · go_simp
          obtain ⟨X2, hX2⟩ : ∃ W', W' = World.drew (World.alloc V (.cells #[.int .i64 0, .int .i64 0, .int .i64 0, .int .i64 0, .int .i64 0] 51)) := ⟨_, rfl⟩
          rw [← hX2]
          replace hX2 : X2 = World.alloc V.drew (.cells #[.int .i64 0, .int .i64 0, .int .i64 0, .int .i64 0, .int .i64 0] 51) := hX2
          have bX2 : Below V.drew.heap.size V.drew X2 := by rw [hX2]; exact (Below.refl _ _).alloc (Nat.le_refl _) _
          have B14 : Blk X2 V.heap.size 51 #[.int .i64 0, .int .i64 0, .int .i64 0, .int .i64 0, .int .i64 0] := by rw [hX2]; exact Blk.new _ _ _
          have zX2 := bX2.size
          have gz2 : g < X2.heap.size := Nat.lt_of_lt_of_le gz0 zX2
          have c0 := (bX2.cell (p := ⟨g, t * 5, none⟩) gz0).trans c0
          have c1 := (bX2.cell (p := ⟨g, t * 5 + 1, none⟩) gz0).trans c1
          have c2 := (bX2.cell (p := ⟨g, t * 5 + 2, none⟩) gz0).trans c2
          have c3 := (bX2.cell (p := ⟨g, t * 5 + 3, none⟩) gz0).trans c3
          have c4 := (bX2.cell (p := ⟨g, t * 5 + 4, none⟩) gz0).trans c4
          have d0 := (bX2.cell (p := ⟨g, u * 5, none⟩) gz0).trans d0
          have d1 := (bX2.cell (p := ⟨g, u * 5 + 1, none⟩) gz0).trans d1
          have d2 := (bX2.cell (p := ⟨g, u * 5 + 2, none⟩) gz0).trans d2
          have d3 := (bX2.cell (p := ⟨g, u * 5 + 3, none⟩) gz0).trans d3
          have d4 := (bX2.cell (p := ⟨g, u * 5 + 4, none⟩) gz0).trans d4
          have hc2 := below_next hc0 (Nat.le_refl _) bX2
          have zc14 : V.heap.size ≤ V.heap.size := hc0.size
          have B140 := B14.lt
          clear hX2
          refine hK.out _ _ ⟨c0, c1, c2, c3, c4, d0, d1, d2, d3, d4⟩ (fun hHeld2 => ?_)
          clear hK KK hHeld
          have hHeld := hHeld2
          clear hHeld2
          try simp only [Act.put, List.setIfInBounds_toArray, List.set_cons_zero, List.set_cons_succ, List.getElem_toArray, List.getElem_cons_zero, List.getElem_cons_succ]
          refine wpAnyH_ready (rs := [11, 15]) (by kernel_rfl) (by simp) ?_
          refine (AllReadyH.cons rfl (fun KK hK => ?_) (AllReadyH.cons rfl (fun KK hK => ?_) AllReadyH.nil))
          · go_simp
            go_at_call 11
            refine (mod_any b N (by omega) (by omega) b0 b1 _).mono ?_
            rintro e w' ⟨rfl, rfl⟩
            rw [HMB.out]
            go_wp2_with fail
            refine hK.out _ _ ⟨c0, c1, c2, c3, c4, d0, d1, d2, d3, d4⟩ (fun hHeld2 => ?_)
            clear hK KK hHeld
            have hHeld := hHeld2
            clear hHeld2
            try simp only [Act.put, List.setIfInBounds_toArray, List.set_cons_zero, List.set_cons_succ, List.getElem_toArray, List.getElem_cons_zero, List.getElem_cons_succ]
            (refine wpAnyH_take (i := 12) (v := ?_) rfl (by kernel_rfl) (by kernel_rfl) (by kernel_rfl) (fun _ _ _ h => h) (Or.inl ⟨by rfl, ?_⟩) (by assumption) ?_; rotate_left 1; (focus (rintro w' ⟨k0, k1, k2, k3, k4, l0, l1, l2, l3, l4⟩; go_simp; (try with_reducible rfl); done)); try simp only [Act.put, List.setIfInBounds_toArray, List.set_cons_zero, List.set_cons_succ, List.getElem_toArray, List.getElem_cons_zero, List.getElem_cons_succ])
            (refine wpAnyH_take (i := 13) (v := ?_) rfl (by kernel_rfl) (by kernel_rfl) (by kernel_rfl) (fun _ _ _ h => h) (Or.inl ⟨by rfl, ?_⟩) (by assumption) ?_; rotate_left 1; (focus (rintro w' ⟨k0, k1, k2, k3, k4, l0, l1, l2, l3, l4⟩; go_simp; (try with_reducible rfl); done)); try simp only [Act.put, List.setIfInBounds_toArray, List.set_cons_zero, List.set_cons_succ, List.getElem_toArray, List.getElem_cons_zero, List.getElem_cons_succ])
            refine wpAnyH_ready (rs := [15]) (by kernel_rfl) (by simp) ?_
            refine (AllReadyH.cons rfl (fun KK hK => ?_) AllReadyH.nil)
            · go_simp
              obtain ⟨X4, hX4⟩ : ∃ W', W' = World.alloc X2 (.cells #[.int .i64 0, .int .i64 0, .int .i64 0, .int .i64 0, .int .i64 0] 51) := ⟨_, rfl⟩
              rw [← hX4]
              have bX4 : Below X2.heap.size X2 X4 := by rw [hX4]; exact (Below.refl _ _).alloc (Nat.le_refl _) _
              have B15 : Blk X4 X2.heap.size 51 #[.int .i64 0, .int .i64 0, .int .i64 0, .int .i64 0, .int .i64 0] := by rw [hX4]; exact Blk.new _ _ _
              have B14 := B14.next bX4
              have zX4 := bX4.size
              have gz4 : g < X4.heap.size := Nat.lt_of_lt_of_le gz2 zX4
              have c0 := (bX4.cell (p := ⟨g, t * 5, none⟩) gz2).trans c0
              have c1 := (bX4.cell (p := ⟨g, t * 5 + 1, none⟩) gz2).trans c1
              have c2 := (bX4.cell (p := ⟨g, t * 5 + 2, none⟩) gz2).trans c2
              have c3 := (bX4.cell (p := ⟨g, t * 5 + 3, none⟩) gz2).trans c3
              have c4 := (bX4.cell (p := ⟨g, t * 5 + 4, none⟩) gz2).trans c4
              have d0 := (bX4.cell (p := ⟨g, u * 5, none⟩) gz2).trans d0
              have d1 := (bX4.cell (p := ⟨g, u * 5 + 1, none⟩) gz2).trans d1
              have d2 := (bX4.cell (p := ⟨g, u * 5 + 2, none⟩) gz2).trans d2
              have d3 := (bX4.cell (p := ⟨g, u * 5 + 3, none⟩) gz2).trans d3
              have d4 := (bX4.cell (p := ⟨g, u * 5 + 4, none⟩) gz2).trans d4
              have hc4 := below_next hc2 (Nat.le_refl _) bX4
              have zc15 : V.heap.size ≤ X2.heap.size := hc2.size
              have nn : V.heap.size ≠ X2.heap.size := by have := B140; omega
              clear hX4
              refine hK.out _ _ ⟨c0, c1, c2, c3, c4, d0, d1, d2, d3, d4⟩ (fun hHeld2 => ?_)
              clear hK KK hHeld
              have hHeld := hHeld2
              clear hHeld2
              try simp only [Act.put, List.setIfInBounds_toArray, List.set_cons_zero, List.set_cons_succ, List.getElem_toArray, List.getElem_cons_zero, List.getElem_cons_succ]
              have s0 := B14.cell 0
              have s1 := B14.cell 1
              have s2 := B14.cell 2
              have s3 := B14.cell 3
              have s4 := B14.cell 4
              have f0 := B14.frozen 0
              have f1 := B14.frozen 1
              have f2 := B14.frozen 2
              have f3 := B14.frozen 3
              have f4 := B14.frozen 4
              simp at s0 s1 s2 s3 s4
              refine wpAnyH_ready (rs := [16]) (by kernel_rfl) (by simp) ?_
              refine AllReadyH.cons rfl (fun KK hK => ?_) AllReadyH.nil
              go_simp
              obtain ⟨Z16, hZ16⟩ : ∃ W', W' = (((((X4.setCell ⟨V.heap.size, 0, none⟩ (.int .i64 x0)).setCell ⟨V.heap.size, 1, none⟩ (.int .i64 x1)).setCell ⟨V.heap.size, 2, none⟩ (.int .i64 p)).setCell ⟨V.heap.size, 3, none⟩ (.int .i64 x3)).setCell ⟨V.heap.size, 4, none⟩ (.int .i64 x4)) := ⟨_, rfl⟩
              rw [← hZ16]
              have bZ16 : Below V.heap.size X4 Z16 := by rw [hZ16]; exact below_set5V (Below.refl _ _) zc14 _ _ _ _ _
              have B14 : Blk Z16 V.heap.size 51 #[.int .i64 x0, .int .i64 x1, .int .i64 p, .int .i64 x3, .int .i64 x4] := by rw [hZ16]; exact B14.set5V _ _ _ _ _
              have B15 : Blk Z16 X2.heap.size 51 #[.int .i64 0, .int .i64 0, .int .i64 0, .int .i64 0, .int .i64 0] := by rw [hZ16]; exact B15.turn5 (nn.symm) _ _ _ _ _
              have hcz16 := hc4.trans bZ16
              clear hZ16 s0 s1 s2 s3 s4 f0 f1 f2 f3 f4
              have c0 := (bZ16.cell (p := ⟨g, t * 5, none⟩) hgz).trans c0
              have c1 := (bZ16.cell (p := ⟨g, t * 5 + 1, none⟩) hgz).trans c1
              have c2 := (bZ16.cell (p := ⟨g, t * 5 + 2, none⟩) hgz).trans c2
              have c3 := (bZ16.cell (p := ⟨g, t * 5 + 3, none⟩) hgz).trans c3
              have c4 := (bZ16.cell (p := ⟨g, t * 5 + 4, none⟩) hgz).trans c4
              have d0 := (bZ16.cell (p := ⟨g, u * 5, none⟩) hgz).trans d0
              have d1 := (bZ16.cell (p := ⟨g, u * 5 + 1, none⟩) hgz).trans d1
              have d2 := (bZ16.cell (p := ⟨g, u * 5 + 2, none⟩) hgz).trans d2
              have d3 := (bZ16.cell (p := ⟨g, u * 5 + 3, none⟩) hgz).trans d3
              have d4 := (bZ16.cell (p := ⟨g, u * 5 + 4, none⟩) hgz).trans d4
              refine hK.out _ _ ⟨c0, c1, c2, c3, c4, d0, d1, d2, d3, d4⟩ (fun hHeld2 => ?_)
              clear hK KK hHeld
              have hHeld := hHeld2
              clear hHeld2
              try simp only [Act.put, List.setIfInBounds_toArray, List.set_cons_zero, List.set_cons_succ, List.getElem_toArray, List.getElem_cons_zero, List.getElem_cons_succ]
              have s0 := B15.cell 0
              have s1 := B15.cell 1
              have s2 := B15.cell 2
              have s3 := B15.cell 3
              have s4 := B15.cell 4
              have f0 := B15.frozen 0
              have f1 := B15.frozen 1
              have f2 := B15.frozen 2
              have f3 := B15.frozen 3
              have f4 := B15.frozen 4
              simp at s0 s1 s2 s3 s4
              refine wpAnyH_ready (rs := [17]) (by kernel_rfl) (by simp) ?_
              refine AllReadyH.cons rfl (fun KK hK => ?_) AllReadyH.nil
              go_simp
              obtain ⟨Z17, hZ17⟩ : ∃ W', W' = (((((Z16.setCell ⟨X2.heap.size, 0, none⟩ (.int .i64 y0)).setCell ⟨X2.heap.size, 1, none⟩ (.int .i64 y1)).setCell ⟨X2.heap.size, 2, none⟩ (.int .i64 p')).setCell ⟨X2.heap.size, 3, none⟩ (.int .i64 y3)).setCell ⟨X2.heap.size, 4, none⟩ (.int .i64 y4)) := ⟨_, rfl⟩
              rw [← hZ17]
              have bZ17 : Below V.heap.size Z16 Z17 := by rw [hZ17]; exact below_set5V (Below.refl _ _) zc15 _ _ _ _ _
              have B15 : Blk Z17 X2.heap.size 51 #[.int .i64 y0, .int .i64 y1, .int .i64 p', .int .i64 y3, .int .i64 y4] := by rw [hZ17]; exact B15.set5V _ _ _ _ _
              have B14 : Blk Z17 V.heap.size 51 #[.int .i64 x0, .int .i64 x1, .int .i64 p, .int .i64 x3, .int .i64 x4] := by rw [hZ17]; exact B14.turn5 (nn) _ _ _ _ _
              have hcz17 := hcz16.trans bZ17
              clear hZ17 s0 s1 s2 s3 s4 f0 f1 f2 f3 f4
              have c0 := (bZ17.cell (p := ⟨g, t * 5, none⟩) hgz).trans c0
              have c1 := (bZ17.cell (p := ⟨g, t * 5 + 1, none⟩) hgz).trans c1
              have c2 := (bZ17.cell (p := ⟨g, t * 5 + 2, none⟩) hgz).trans c2
              have c3 := (bZ17.cell (p := ⟨g, t * 5 + 3, none⟩) hgz).trans c3
              have c4 := (bZ17.cell (p := ⟨g, t * 5 + 4, none⟩) hgz).trans c4
              have d0 := (bZ17.cell (p := ⟨g, u * 5, none⟩) hgz).trans d0
              have d1 := (bZ17.cell (p := ⟨g, u * 5 + 1, none⟩) hgz).trans d1
              have d2 := (bZ17.cell (p := ⟨g, u * 5 + 2, none⟩) hgz).trans d2
              have d3 := (bZ17.cell (p := ⟨g, u * 5 + 3, none⟩) hgz).trans d3
              have d4 := (bZ17.cell (p := ⟨g, u * 5 + 4, none⟩) hgz).trans d4
              refine hK.out _ _ ⟨c0, c1, c2, c3, c4, d0, d1, d2, d3, d4⟩ (fun hHeld2 => ?_)
              clear hK KK hHeld
              have hHeld := hHeld2
              clear hHeld2
              try simp only [Act.put, List.setIfInBounds_toArray, List.set_cons_zero, List.set_cons_succ, List.getElem_toArray, List.getElem_cons_zero, List.getElem_cons_succ]
              refine wpAnyH_done (by kernel_rfl) ?_ _
              clear hHeld
              go_wp2
              go_meet
              exact ⟨V.heap.size, X2.heap.size, rfl, rfl, zc14, zc15, nn, hcz17, B14, B15⟩
          · go_simp
            obtain ⟨X3, hX3⟩ : ∃ W', W' = World.alloc X2 (.cells #[.int .i64 0, .int .i64 0, .int .i64 0, .int .i64 0, .int .i64 0] 51) := ⟨_, rfl⟩
            rw [← hX3]
            have bX3 : Below X2.heap.size X2 X3 := by rw [hX3]; exact (Below.refl _ _).alloc (Nat.le_refl _) _
            have B15 : Blk X3 X2.heap.size 51 #[.int .i64 0, .int .i64 0, .int .i64 0, .int .i64 0, .int .i64 0] := by rw [hX3]; exact Blk.new _ _ _
            have B14 := B14.next bX3
            have zX3 := bX3.size
            have gz3 : g < X3.heap.size := Nat.lt_of_lt_of_le gz2 zX3
            have c0 := (bX3.cell (p := ⟨g, t * 5, none⟩) gz2).trans c0
            have c1 := (bX3.cell (p := ⟨g, t * 5 + 1, none⟩) gz2).trans c1
            have c2 := (bX3.cell (p := ⟨g, t * 5 + 2, none⟩) gz2).trans c2
            have c3 := (bX3.cell (p := ⟨g, t * 5 + 3, none⟩) gz2).trans c3
            have c4 := (bX3.cell (p := ⟨g, t * 5 + 4, none⟩) gz2).trans c4
            have d0 := (bX3.cell (p := ⟨g, u * 5, none⟩) gz2).trans d0
            have d1 := (bX3.cell (p := ⟨g, u * 5 + 1, none⟩) gz2).trans d1
            have d2 := (bX3.cell (p := ⟨g, u * 5 + 2, none⟩) gz2).trans d2
            have d3 := (bX3.cell (p := ⟨g, u * 5 + 3, none⟩) gz2).trans d3
            have d4 := (bX3.cell (p := ⟨g, u * 5 + 4, none⟩) gz2).trans d4
            have hc3 := below_next hc2 (Nat.le_refl _) bX3
            have zc15 : V.heap.size ≤ X2.heap.size := hc2.size
            have nn : V.heap.size ≠ X2.heap.size := by have := B140; omega
            clear hX3
            refine hK.out _ _ ⟨c0, c1, c2, c3, c4, d0, d1, d2, d3, d4⟩ (fun hHeld2 => ?_)
            clear hK KK hHeld
            have hHeld := hHeld2
            clear hHeld2
            try simp only [Act.put, List.setIfInBounds_toArray, List.set_cons_zero, List.set_cons_succ, List.getElem_toArray, List.getElem_cons_zero, List.getElem_cons_succ]
            refine wpAnyH_ready (rs := [11]) (by kernel_rfl) (by simp) ?_
            refine (AllReadyH.cons rfl (fun KK hK => ?_) AllReadyH.nil)
            · go_simp
              go_at_call 11
              refine (mod_any b N (by omega) (by omega) b0 b1 _).mono ?_
              rintro e w' ⟨rfl, rfl⟩
              rw [HMB.out]
              go_wp2_with fail
              refine hK.out _ _ ⟨c0, c1, c2, c3, c4, d0, d1, d2, d3, d4⟩ (fun hHeld2 => ?_)
              clear hK KK hHeld
              have hHeld := hHeld2
              clear hHeld2
              try simp only [Act.put, List.setIfInBounds_toArray, List.set_cons_zero, List.set_cons_succ, List.getElem_toArray, List.getElem_cons_zero, List.getElem_cons_succ]
              (refine wpAnyH_take (i := 12) (v := ?_) rfl (by kernel_rfl) (by kernel_rfl) (by kernel_rfl) (fun _ _ _ h => h) (Or.inl ⟨by rfl, ?_⟩) (by assumption) ?_; rotate_left 1; (focus (rintro w' ⟨k0, k1, k2, k3, k4, l0, l1, l2, l3, l4⟩; go_simp; (try with_reducible rfl); done)); try simp only [Act.put, List.setIfInBounds_toArray, List.set_cons_zero, List.set_cons_succ, List.getElem_toArray, List.getElem_cons_zero, List.getElem_cons_succ])
              (refine wpAnyH_take (i := 13) (v := ?_) rfl (by kernel_rfl) (by kernel_rfl) (by kernel_rfl) (fun _ _ _ h => h) (Or.inl ⟨by rfl, ?_⟩) (by assumption) ?_; rotate_left 1; (focus (rintro w' ⟨k0, k1, k2, k3, k4, l0, l1, l2, l3, l4⟩; go_simp; (try with_reducible rfl); done)); try simp only [Act.put, List.setIfInBounds_toArray, List.set_cons_zero, List.set_cons_succ, List.getElem_toArray, List.getElem_cons_zero, List.getElem_cons_succ])
              have s0 := B14.cell 0
              have s1 := B14.cell 1
              have s2 := B14.cell 2
              have s3 := B14.cell 3
              have s4 := B14.cell 4
              have f0 := B14.frozen 0
              have f1 := B14.frozen 1
              have f2 := B14.frozen 2
              have f3 := B14.frozen 3
              have f4 := B14.frozen 4
              simp at s0 s1 s2 s3 s4
              refine wpAnyH_ready (rs := [16]) (by kernel_rfl) (by simp) ?_
              refine AllReadyH.cons rfl (fun KK hK => ?_) AllReadyH.nil
              go_simp
              obtain ⟨Z16, hZ16⟩ : ∃ W', W' = (((((X3.setCell ⟨V.heap.size, 0, none⟩ (.int .i64 x0)).setCell ⟨V.heap.size, 1, none⟩ (.int .i64 x1)).setCell ⟨V.heap.size, 2, none⟩ (.int .i64 p)).setCell ⟨V.heap.size, 3, none⟩ (.int .i64 x3)).setCell ⟨V.heap.size, 4, none⟩ (.int .i64 x4)) := ⟨_, rfl⟩
              rw [← hZ16]
              have bZ16 : Below V.heap.size X3 Z16 := by rw [hZ16]; exact below_set5V (Below.refl _ _) zc14 _ _ _ _ _
              have B14 : Blk Z16 V.heap.size 51 #[.int .i64 x0, .int .i64 x1, .int .i64 p, .int .i64 x3, .int .i64 x4] := by rw [hZ16]; exact B14.set5V _ _ _ _ _
              have B15 : Blk Z16 X2.heap.size 51 #[.int .i64 0, .int .i64 0, .int .i64 0, .int .i64 0, .int .i64 0] := by rw [hZ16]; exact B15.turn5 (nn.symm) _ _ _ _ _
              have hcz16 := hc3.trans bZ16
              clear hZ16 s0 s1 s2 s3 s4 f0 f1 f2 f3 f4
              have c0 := (bZ16.cell (p := ⟨g, t * 5, none⟩) hgz).trans c0
              have c1 := (bZ16.cell (p := ⟨g, t * 5 + 1, none⟩) hgz).trans c1
              have c2 := (bZ16.cell (p := ⟨g, t * 5 + 2, none⟩) hgz).trans c2
              have c3 := (bZ16.cell (p := ⟨g, t * 5 + 3, none⟩) hgz).trans c3
              have c4 := (bZ16.cell (p := ⟨g, t * 5 + 4, none⟩) hgz).trans c4
              have d0 := (bZ16.cell (p := ⟨g, u * 5, none⟩) hgz).trans d0
              have d1 := (bZ16.cell (p := ⟨g, u * 5 + 1, none⟩) hgz).trans d1
              have d2 := (bZ16.cell (p := ⟨g, u * 5 + 2, none⟩) hgz).trans d2
              have d3 := (bZ16.cell (p := ⟨g, u * 5 + 3, none⟩) hgz).trans d3
              have d4 := (bZ16.cell (p := ⟨g, u * 5 + 4, none⟩) hgz).trans d4
              refine hK.out _ _ ⟨c0, c1, c2, c3, c4, d0, d1, d2, d3, d4⟩ (fun hHeld2 => ?_)
              clear hK KK hHeld
              have hHeld := hHeld2
              clear hHeld2
              try simp only [Act.put, List.setIfInBounds_toArray, List.set_cons_zero, List.set_cons_succ, List.getElem_toArray, List.getElem_cons_zero, List.getElem_cons_succ]
              have s0 := B15.cell 0
              have s1 := B15.cell 1
              have s2 := B15.cell 2
              have s3 := B15.cell 3
              have s4 := B15.cell 4
              have f0 := B15.frozen 0
              have f1 := B15.frozen 1
              have f2 := B15.frozen 2
              have f3 := B15.frozen 3
              have f4 := B15.frozen 4
              simp at s0 s1 s2 s3 s4
              refine wpAnyH_ready (rs := [17]) (by kernel_rfl) (by simp) ?_
              refine AllReadyH.cons rfl (fun KK hK => ?_) AllReadyH.nil
              go_simp
              obtain ⟨Z17, hZ17⟩ : ∃ W', W' = (((((Z16.setCell ⟨X2.heap.size, 0, none⟩ (.int .i64 y0)).setCell ⟨X2.heap.size, 1, none⟩ (.int .i64 y1)).setCell ⟨X2.heap.size, 2, none⟩ (.int .i64 p')).setCell ⟨X2.heap.size, 3, none⟩ (.int .i64 y3)).setCell ⟨X2.heap.size, 4, none⟩ (.int .i64 y4)) := ⟨_, rfl⟩
              rw [← hZ17]
              have bZ17 : Below V.heap.size Z16 Z17 := by rw [hZ17]; exact below_set5V (Below.refl _ _) zc15 _ _ _ _ _
              have B15 : Blk Z17 X2.heap.size 51 #[.int .i64 y0, .int .i64 y1, .int .i64 p', .int .i64 y3, .int .i64 y4] := by rw [hZ17]; exact B15.set5V _ _ _ _ _
              have B14 : Blk Z17 V.heap.size 51 #[.int .i64 x0, .int .i64 x1, .int .i64 p, .int .i64 x3, .int .i64 x4] := by rw [hZ17]; exact B14.turn5 (nn) _ _ _ _ _
              have hcz17 := hcz16.trans bZ17
              clear hZ17 s0 s1 s2 s3 s4 f0 f1 f2 f3 f4
              have c0 := (bZ17.cell (p := ⟨g, t * 5, none⟩) hgz).trans c0
              have c1 := (bZ17.cell (p := ⟨g, t * 5 + 1, none⟩) hgz).trans c1
              have c2 := (bZ17.cell (p := ⟨g, t * 5 + 2, none⟩) hgz).trans c2
              have c3 := (bZ17.cell (p := ⟨g, t * 5 + 3, none⟩) hgz).trans c3
              have c4 := (bZ17.cell (p := ⟨g, t * 5 + 4, none⟩) hgz).trans c4
              have d0 := (bZ17.cell (p := ⟨g, u * 5, none⟩) hgz).trans d0
              have d1 := (bZ17.cell (p := ⟨g, u * 5 + 1, none⟩) hgz).trans d1
              have d2 := (bZ17.cell (p := ⟨g, u * 5 + 2, none⟩) hgz).trans d2
              have d3 := (bZ17.cell (p := ⟨g, u * 5 + 3, none⟩) hgz).trans d3
              have d4 := (bZ17.cell (p := ⟨g, u * 5 + 4, none⟩) hgz).trans d4
              refine hK.out _ _ ⟨c0, c1, c2, c3, c4, d0, d1, d2, d3, d4⟩ (fun hHeld2 => ?_)
              clear hK KK hHeld
              have hHeld := hHeld2
              clear hHeld2
              try simp only [Act.put, List.setIfInBounds_toArray, List.set_cons_zero, List.set_cons_succ, List.getElem_toArray, List.getElem_cons_zero, List.getElem_cons_succ]
              refine wpAnyH_done (by kernel_rfl) ?_ _
              clear hHeld
              go_wp2
              go_meet
              exact ⟨V.heap.size, X2.heap.size, rfl, rfl, zc14, zc15, nn, hcz17, B14, B15⟩
        · go_simp
          obtain ⟨X2, hX2⟩ : ∃ W', W' = World.drew (World.alloc V (.cells #[.int .i64 0, .int .i64 0, .int .i64 0, .int .i64 0, .int .i64 0] 51)) := ⟨_, rfl⟩
          rw [← hX2]
          replace hX2 : X2 = World.alloc V.drew (.cells #[.int .i64 0, .int .i64 0, .int .i64 0, .int .i64 0, .int .i64 0] 51) := hX2
          have bX2 : Below V.drew.heap.size V.drew X2 := by rw [hX2]; exact (Below.refl _ _).alloc (Nat.le_refl _) _
          have B15 : Blk X2 V.heap.size 51 #[.int .i64 0, .int .i64 0, .int .i64 0, .int .i64 0, .int .i64 0] := by rw [hX2]; exact Blk.new _ _ _
          have zX2 := bX2.size
          have gz2 : g < X2.heap.size := Nat.lt_of_lt_of_le gz0 zX2
          have c0 := (bX2.cell (p := ⟨g, t * 5, none⟩) gz0).trans c0
          have c1 := (bX2.cell (p := ⟨g, t * 5 + 1, none⟩) gz0).trans c1
          have c2 := (bX2.cell (p := ⟨g, t * 5 + 2, none⟩) gz0).trans c2
          have c3 := (bX2.cell (p := ⟨g, t * 5 + 3, none⟩) gz0).trans c3
          have c4 := (bX2.cell (p := ⟨g, t * 5 + 4, none⟩) gz0).trans c4
          have d0 := (bX2.cell (p := ⟨g, u * 5, none⟩) gz0).trans d0
          have d1 := (bX2.cell (p := ⟨g, u * 5 + 1, none⟩) gz0).trans d1
          have d2 := (bX2.cell (p := ⟨g, u * 5 + 2, none⟩) gz0).trans d2
          have d3 := (bX2.cell (p := ⟨g, u * 5 + 3, none⟩) gz0).trans d3
          have d4 := (bX2.cell (p := ⟨g, u * 5 + 4, none⟩) gz0).trans d4
          have hc2 := below_next hc0 (Nat.le_refl _) bX2
          have zc15 : V.heap.size ≤ V.heap.size := hc0.size
          have B150 := B15.lt
          clear hX2
          refine hK.out _ _ ⟨c0, c1, c2, c3, c4, d0, d1, d2, d3, d4⟩ (fun hHeld2 => ?_)
          clear hK KK hHeld
          have hHeld := hHeld2
          clear hHeld2
          try simp only [Act.put, List.setIfInBounds_toArray, List.set_cons_zero, List.set_cons_succ, List.getElem_toArray, List.getElem_cons_zero, List.getElem_cons_succ]
          refine wpAnyH_ready (rs := [11, 14]) (by kernel_rfl) (by simp) ?_
          refine (AllReadyH.cons rfl (fun KK hK => ?_) (AllReadyH.cons rfl (fun KK hK => ?_) AllReadyH.nil))
          · go_simp
            go_at_call 11
            refine (mod_any b N (by omega) (by omega) b0 b1 _).mono ?_
            rintro e w' ⟨rfl, rfl⟩
            rw [HMB.out]
            go_wp2_with fail
            refine hK.out _ _ ⟨c0, c1, c2, c3, c4, d0, d1, d2, d3, d4⟩ (fun hHeld2 => ?_)
            clear hK KK hHeld
            have hHeld := hHeld2
            clear hHeld2
            try simp only [Act.put, List.setIfInBounds_toArray, List.set_cons_zero, List.set_cons_succ, List.getElem_toArray, List.getElem_cons_zero, List.getElem_cons_succ]
            (refine wpAnyH_take (i := 12) (v := ?_) rfl (by kernel_rfl) (by kernel_rfl) (by kernel_rfl) (fun _ _ _ h => h) (Or.inl ⟨by rfl, ?_⟩) (by assumption) ?_; rotate_left 1; (focus (rintro w' ⟨k0, k1, k2, k3, k4, l0, l1, l2, l3, l4⟩; go_simp; (try with_reducible rfl); done)); try simp only [Act.put, List.setIfInBounds_toArray, List.set_cons_zero, List.set_cons_succ, List.getElem_toArray, List.getElem_cons_zero, List.getElem_cons_succ])
            (refine wpAnyH_take (i := 13) (v := ?_) rfl (by kernel_rfl) (by kernel_rfl) (by kernel_rfl) (fun _ _ _ h => h) (Or.inl ⟨by rfl, ?_⟩) (by assumption) ?_; rotate_left 1; (focus (rintro w' ⟨k0, k1, k2, k3, k4, l0, l1, l2, l3, l4⟩; go_simp; (try with_reducible rfl); done)); try simp only [Act.put, List.setIfInBounds_toArray, List.set_cons_zero, List.set_cons_succ, List.getElem_toArray, List.getElem_cons_zero, List.getElem_cons_succ])
            refine wpAnyH_ready (rs := [14]) (by kernel_rfl) (by simp) ?_
            refine (AllReadyH.cons rfl (fun KK hK => ?_) AllReadyH.nil)
            · go_simp
              obtain ⟨X4, hX4⟩ : ∃ W', W' = World.alloc X2 (.cells #[.int .i64 0, .int .i64 0, .int .i64 0, .int .i64 0, .int .i64 0] 51) := ⟨_, rfl⟩
              rw [← hX4]
              have bX4 : Below X2.heap.size X2 X4 := by rw [hX4]; exact (Below.refl _ _).alloc (Nat.le_refl _) _
              have B14 : Blk X4 X2.heap.size 51 #[.int .i64 0, .int .i64 0, .int .i64 0, .int .i64 0, .int .i64 0] := by rw [hX4]; exact Blk.new _ _ _
              have B15 := B15.next bX4
              have zX4 := bX4.size
              have gz4 : g < X4.heap.size := Nat.lt_of_lt_of_le gz2 zX4
              have c0 := (bX4.cell (p := ⟨g, t * 5, none⟩) gz2).trans c0
              have c1 := (bX4.cell (p := ⟨g, t * 5 + 1, none⟩) gz2).trans c1
              have c2 := (bX4.cell (p := ⟨g, t * 5 + 2, none⟩) gz2).trans c2
              have c3 := (bX4.cell (p := ⟨g, t * 5 + 3, none⟩) gz2).trans c3
              have c4 := (bX4.cell (p := ⟨g, t * 5 + 4, none⟩) gz2).trans c4
              have d0 := (bX4.cell (p := ⟨g, u * 5, none⟩) gz2).trans d0
              have d1 := (bX4.cell (p := ⟨g, u * 5 + 1, none⟩) gz2).trans d1
              have d2 := (bX4.cell (p := ⟨g, u * 5 + 2, none⟩) gz2).trans d2
              have d3 := (bX4.cell (p := ⟨g, u * 5 + 3, none⟩) gz2).trans d3
              have d4 := (bX4.cell (p := ⟨g, u * 5 + 4, none⟩) gz2).trans d4
              have hc4 := below_next hc2 (Nat.le_refl _) bX4
              have zc14 : V.heap.size ≤ X2.heap.size := hc2.size
              have nn : V.heap.size ≠ X2.heap.size := by have := B150; omega
              clear hX4
              refine hK.out _ _ ⟨c0, c1, c2, c3, c4, d0, d1, d2, d3, d4⟩ (fun hHeld2 => ?_)
              clear hK KK hHeld
              have hHeld := hHeld2
              clear hHeld2
              try simp only [Act.put, List.setIfInBounds_toArray, List.set_cons_zero, List.set_cons_succ, List.getElem_toArray, List.getElem_cons_zero, List.getElem_cons_succ]
              have s0 := B14.cell 0
              have s1 := B14.cell 1
              have s2 := B14.cell 2
              have s3 := B14.cell 3
              have s4 := B14.cell 4
              have f0 := B14.frozen 0
              have f1 := B14.frozen 1
              have f2 := B14.frozen 2
              have f3 := B14.frozen 3
              have f4 := B14.frozen 4
              simp at s0 s1 s2 s3 s4
              refine wpAnyH_ready (rs := [16]) (by kernel_rfl) (by simp) ?_
              refine AllReadyH.cons rfl (fun KK hK => ?_) AllReadyH.nil
              go_simp
              obtain ⟨Z16, hZ16⟩ : ∃ W', W' = (((((X4.setCell ⟨X2.heap.size, 0, none⟩ (.int .i64 x0)).setCell ⟨X2.heap.size, 1, none⟩ (.int .i64 x1)).setCell ⟨X2.heap.size, 2, none⟩ (.int .i64 p)).setCell ⟨X2.heap.size, 3, none⟩ (.int .i64 x3)).setCell ⟨X2.heap.size, 4, none⟩ (.int .i64 x4)) := ⟨_, rfl⟩
              rw [← hZ16]
              have bZ16 : Below V.heap.size X4 Z16 := by rw [hZ16]; exact below_set5V (Below.refl _ _) zc14 _ _ _ _ _
              have B14 : Blk Z16 X2.heap.size 51 #[.int .i64 x0, .int .i64 x1, .int .i64 p, .int .i64 x3, .int .i64 x4] := by rw [hZ16]; exact B14.set5V _ _ _ _ _
              have B15 : Blk Z16 V.heap.size 51 #[.int .i64 0, .int .i64 0, .int .i64 0, .int .i64 0, .int .i64 0] := by rw [hZ16]; exact B15.turn5 (nn.symm.symm) _ _ _ _ _
              have hcz16 := hc4.trans bZ16
              clear hZ16 s0 s1 s2 s3 s4 f0 f1 f2 f3 f4
              have c0 := (bZ16.cell (p := ⟨g, t * 5, none⟩) hgz).trans c0
              have c1 := (bZ16.cell (p := ⟨g, t * 5 + 1, none⟩) hgz).trans c1
              have c2 := (bZ16.cell (p := ⟨g, t * 5 + 2, none⟩) hgz).trans c2
              have c3 := (bZ16.cell (p := ⟨g, t * 5 + 3, none⟩) hgz).trans c3
              have c4 := (bZ16.cell (p := ⟨g, t * 5 + 4, none⟩) hgz).trans c4
              have d0 := (bZ16.cell (p := ⟨g, u * 5, none⟩) hgz).trans d0
              have d1 := (bZ16.cell (p := ⟨g, u * 5 + 1, none⟩) hgz).trans d1
              have d2 := (bZ16.cell (p := ⟨g, u * 5 + 2, none⟩) hgz).trans d2
              have d3 := (bZ16.cell (p := ⟨g, u * 5 + 3, none⟩) hgz).trans d3
              have d4 := (bZ16.cell (p := ⟨g, u * 5 + 4, none⟩) hgz).trans d4
              refine hK.out _ _ ⟨c0, c1, c2, c3, c4, d0, d1, d2, d3, d4⟩ (fun hHeld2 => ?_)
              clear hK KK hHeld
              have hHeld := hHeld2
              clear hHeld2
              try simp only [Act.put, List.setIfInBounds_toArray, List.set_cons_zero, List.set_cons_succ, List.getElem_toArray, List.getElem_cons_zero, List.getElem_cons_succ]
              have s0 := B15.cell 0
              have s1 := B15.cell 1
              have s2 := B15.cell 2
              have s3 := B15.cell 3
              have s4 := B15.cell 4
              have f0 := B15.frozen 0
              have f1 := B15.frozen 1
              have f2 := B15.frozen 2
              have f3 := B15.frozen 3
              have f4 := B15.frozen 4
              simp at s0 s1 s2 s3 s4
              refine wpAnyH_ready (rs := [17]) (by kernel_rfl) (by simp) ?_
              refine AllReadyH.cons rfl (fun KK hK => ?_) AllReadyH.nil
              go_simp
              obtain ⟨Z17, hZ17⟩ : ∃ W', W' = (((((Z16.setCell ⟨V.heap.size, 0, none⟩ (.int .i64 y0)).setCell ⟨V.heap.size, 1, none⟩ (.int .i64 y1)).setCell ⟨V.heap.size, 2, none⟩ (.int .i64 p')).setCell ⟨V.heap.size, 3, none⟩ (.int .i64 y3)).setCell ⟨V.heap.size, 4, none⟩ (.int .i64 y4)) := ⟨_, rfl⟩
              rw [← hZ17]
              have bZ17 : Below V.heap.size Z16 Z17 := by rw [hZ17]; exact below_set5V (Below.refl _ _) zc15 _ _ _ _ _
              have B15 : Blk Z17 V.heap.size 51 #[.int .i64 y0, .int .i64 y1, .int .i64 p', .int .i64 y3, .int .i64 y4] := by rw [hZ17]; exact B15.set5V _ _ _ _ _
              have B14 : Blk Z17 X2.heap.size 51 #[.int .i64 x0, .int .i64 x1, .int .i64 p, .int .i64 x3, .int .i64 x4] := by rw [hZ17]; exact B14.turn5 (nn.symm) _ _ _ _ _
              have hcz17 := hcz16.trans bZ17
              clear hZ17 s0 s1 s2 s3 s4 f0 f1 f2 f3 f4
              have c0 := (bZ17.cell (p := ⟨g, t * 5, none⟩) hgz).trans c0
              have c1 := (bZ17.cell (p := ⟨g, t * 5 + 1, none⟩) hgz).trans c1
              have c2 := (bZ17.cell (p := ⟨g, t * 5 + 2, none⟩) hgz).trans c2
              have c3 := (bZ17.cell (p := ⟨g, t * 5 + 3, none⟩) hgz).trans c3
              have c4 := (bZ17.cell (p := ⟨g, t * 5 + 4, none⟩) hgz).trans c4
              have d0 := (bZ17.cell (p := ⟨g, u * 5, none⟩) hgz).trans d0
              have d1 := (bZ17.cell (p := ⟨g, u * 5 + 1, none⟩) hgz).trans d1
              have d2 := (bZ17.cell (p := ⟨g, u * 5 + 2, none⟩) hgz).trans d2
              have d3 := (bZ17.cell (p := ⟨g, u * 5 + 3, none⟩) hgz).trans d3
              have d4 := (bZ17.cell (p := ⟨g, u * 5 + 4, none⟩) hgz).trans d4
              refine hK.out _ _ ⟨c0, c1, c2, c3, c4, d0, d1, d2, d3, d4⟩ (fun hHeld2 => ?_)
              clear hK KK hHeld
              have hHeld := hHeld2
              clear hHeld2
              try simp only [Act.put, List.setIfInBounds_toArray, List.set_cons_zero, List.set_cons_succ, List.getElem_toArray, List.getElem_cons_zero, List.getElem_cons_succ]
              refine wpAnyH_done (by kernel_rfl) ?_ _
              clear hHeld
              go_wp2
              go_meet
              exact ⟨X2.heap.size, V.heap.size, rfl, rfl, zc14, zc15, nn.symm, hcz17, B14, B15⟩
          · go_simp
            obtain ⟨X3, hX3⟩ : ∃ W', W' = World.alloc X2 (.cells #[.int .i64 0, .int .i64 0, .int .i64 0, .int .i64 0, .int .i64 0] 51) := ⟨_, rfl⟩
            rw [← hX3]
            have bX3 : Below X2.heap.size X2 X3 := by rw [hX3]; exact (Below.refl _ _).alloc (Nat.le_refl _) _
            have B14 : Blk X3 X2.heap.size 51 #[.int .i64 0, .int .i64 0, .int .i64 0, .int .i64 0, .int .i64 0] := by rw [hX3]; exact Blk.new _ _ _
            have B15 := B15.next bX3
            have zX3 := bX3.size
            have gz3 : g < X3.heap.size := Nat.lt_of_lt_of_le gz2 zX3
            have c0 := (bX3.cell (p := ⟨g, t * 5, none⟩) gz2).trans c0
            have c1 := (bX3.cell (p := ⟨g, t * 5 + 1, none⟩) gz2).trans c1
            have c2 := (bX3.cell (p := ⟨g, t * 5 + 2, none⟩) gz2).trans c2
            have c3 := (bX3.cell (p := ⟨g, t * 5 + 3, none⟩) gz2).trans c3
            have c4 := (bX3.cell (p := ⟨g, t * 5 + 4, none⟩) gz2).trans c4
            have d0 := (bX3.cell (p := ⟨g, u * 5, none⟩) gz2).trans d0
            have d1 := (bX3.cell (p := ⟨g, u * 5 + 1, none⟩) gz2).trans d1
            have d2 := (bX3.cell (p := ⟨g, u * 5 + 2, none⟩) gz2).trans d2
            have d3 := (bX3.cell (p := ⟨g, u * 5 + 3, none⟩) gz2).trans d3
            have d4 := (bX3.cell (p := ⟨g, u * 5 + 4, none⟩) gz2).trans d4
            have hc3 := below_next hc2 (Nat.le_refl _) bX3
            have zc14 : V.heap.size ≤ X2.heap.size := hc2.size
            have nn : V.heap.size ≠ X2.heap.size := by have := B150; omega
            clear hX3
            refine hK.out _ _ ⟨c0, c1, c2, c3, c4, d0, d1, d2, d3, d4⟩ (fun hHeld2 => ?_)
            clear hK KK hHeld
            have hHeld := hHeld2
            clear hHeld2
            try simp only [Act.put, List.setIfInBounds_toArray, List.set_cons_zero, List.set_cons_succ, List.getElem_toArray, List.getElem_cons_zero, List.getElem_cons_succ]
            refine wpAnyH_ready (rs := [11]) (by kernel_rfl) (by simp) ?_
            refine (AllReadyH.cons rfl (fun KK hK => ?_) AllReadyH.nil)
            · go_simp
              go_at_call 11
              refine (mod_any b N (by omega) (by omega) b0 b1 _).mono ?_
              rintro e w' ⟨rfl, rfl⟩
              rw [HMB.out]
              go_wp2_with fail
              refine hK.out _ _ ⟨c0, c1, c2, c3, c4, d0, d1, d2, d3, d4⟩ (fun hHeld2 => ?_)
              clear hK KK hHeld
              have hHeld := hHeld2
              clear hHeld2
              try simp only [Act.put, List.setIfInBounds_toArray, List.set_cons_zero, List.set_cons_succ, List.getElem_toArray, List.getElem_cons_zero, List.getElem_cons_succ]
              (refine wpAnyH_take (i := 12) (v := ?_) rfl (by kernel_rfl) (by kernel_rfl) (by kernel_rfl) (fun _ _ _ h => h) (Or.inl ⟨by rfl, ?_⟩) (by assumption) ?_; rotate_left 1; (focus (rintro w' ⟨k0, k1, k2, k3, k4, l0, l1, l2, l3, l4⟩; go_simp; (try with_reducible rfl); done)); try simp only [Act.put, List.setIfInBounds_toArray, List.set_cons_zero, List.set_cons_succ, List.getElem_toArray, List.getElem_cons_zero, List.getElem_cons_succ])
              (refine wpAnyH_take (i := 13) (v := ?_) rfl (by kernel_rfl) (by kernel_rfl) (by kernel_rfl) (fun _ _ _ h => h) (Or.inl ⟨by rfl, ?_⟩) (by assumption) ?_; rotate_left 1; (focus (rintro w' ⟨k0, k1, k2, k3, k4, l0, l1, l2, l3, l4⟩; go_simp; (try with_reducible rfl); done)); try simp only [Act.put, List.setIfInBounds_toArray, List.set_cons_zero, List.set_cons_succ, List.getElem_toArray, List.getElem_cons_zero, List.getElem_cons_succ])
              have s0 := B14.cell 0
              have s1 := B14.cell 1
              have s2 := B14.cell 2
              have s3 := B14.cell 3
              have s4 := B14.cell 4
              have f0 := B14.frozen 0
              have f1 := B14.frozen 1
              have f2 := B14.frozen 2
              have f3 := B14.frozen 3
              have f4 := B14.frozen 4
              simp at s0 s1 s2 s3 s4
              refine wpAnyH_ready (rs := [16]) (by kernel_rfl) (by simp) ?_
              refine AllReadyH.cons rfl (fun KK hK => ?_) AllReadyH.nil
              go_simp
              obtain ⟨Z16, hZ16⟩ : ∃ W', W' = (((((X3.setCell ⟨X2.heap.size, 0, none⟩ (.int .i64 x0)).setCell ⟨X2.heap.size, 1, none⟩ (.int .i64 x1)).setCell ⟨X2.heap.size, 2, none⟩ (.int .i64 p)).setCell ⟨X2.heap.size, 3, none⟩ (.int .i64 x3)).setCell ⟨X2.heap.size, 4, none⟩ (.int .i64 x4)) := ⟨_, rfl⟩
              rw [← hZ16]
              have bZ16 : Below V.heap.size X3 Z16 := by rw [hZ16]; exact below_set5V (Below.refl _ _) zc14 _ _ _ _ _
              have B14 : Blk Z16 X2.heap.size 51 #[.int .i64 x0, .int .i64 x1, .int .i64 p, .int .i64 x3, .int .i64 x4] := by rw [hZ16]; exact B14.set5V _ _ _ _ _
              have B15 : Blk Z16 V.heap.size 51 #[.int .i64 0, .int .i64 0, .int .i64 0, .int .i64 0, .int .i64 0] := by rw [hZ16]; exact B15.turn5 (nn.symm.symm) _ _ _ _ _
              have hcz16 := hc3.trans bZ16
              clear hZ16 s0 s1 s2 s3 s4 f0 f1 f2 f3 f4
              have c0 := (bZ16.cell (p := ⟨g, t * 5, none⟩) hgz).trans c0
              have c1 := (bZ16.cell (p := ⟨g, t * 5 + 1, none⟩) hgz).trans c1
              have c2 := (bZ16.cell (p := ⟨g, t * 5 + 2, none⟩) hgz).trans c2
              have c3 := (bZ16.cell (p := ⟨g, t * 5 + 3, none⟩) hgz).trans c3
              have c4 := (bZ16.cell (p := ⟨g, t * 5 + 4, none⟩) hgz).trans c4
              have d0 := (bZ16.cell (p := ⟨g, u * 5, none⟩) hgz).trans d0
              have d1 := (bZ16.cell (p := ⟨g, u * 5 + 1, none⟩) hgz).trans d1
              have d2 := (bZ16.cell (p := ⟨g, u * 5 + 2, none⟩) hgz).trans d2
              have d3 := (bZ16.cell (p := ⟨g, u * 5 + 3, none⟩) hgz).trans d3
              have d4 := (bZ16.cell (p := ⟨g, u * 5 + 4, none⟩) hgz).trans d4
              refine hK.out _ _ ⟨c0, c1, c2, c3, c4, d0, d1, d2, d3, d4⟩ (fun hHeld2 => ?_)
              clear hK KK hHeld
              have hHeld := hHeld2
              clear hHeld2
              try simp only [Act.put, List.setIfInBounds_toArray, List.set_cons_zero, List.set_cons_succ, List.getElem_toArray, List.getElem_cons_zero, List.getElem_cons_succ]
              have s0 := B15.cell 0
              have s1 := B15.cell 1
              have s2 := B15.cell 2
              have s3 := B15.cell 3
              have s4 := B15.cell 4
              have f0 := B15.frozen 0
              have f1 := B15.frozen 1
              have f2 := B15.frozen 2
              have f3 := B15.frozen 3
              have f4 := B15.frozen 4
              simp at s0 s1 s2 s3 s4
              refine wpAnyH_ready (rs := [17]) (by kernel_rfl) (by simp) ?_
              refine AllReadyH.cons rfl (fun KK hK => ?_) AllReadyH.nil
              go_simp
              obtain ⟨Z17, hZ17⟩ : ∃ W', W' = (((((Z16.setCell ⟨V.heap.size, 0, none⟩ (.int .i64 y0)).setCell ⟨V.heap.size, 1, none⟩ (.int .i64 y1)).setCell ⟨V.heap.size, 2, none⟩ (.int .i64 p')).setCell ⟨V.heap.size, 3, none⟩ (.int .i64 y3)).setCell ⟨V.heap.size, 4, none⟩ (.int .i64 y4)) := ⟨_, rfl⟩
              rw [← hZ17]
              have bZ17 : Below V.heap.size Z16 Z17 := by rw [hZ17]; exact below_set5V (Below.refl _ _) zc15 _ _ _ _ _
              have B15 : Blk Z17 V.heap.size 51 #[.int .i64 y0, .int .i64 y1, .int .i64 p', .int .i64 y3, .int .i64 y4] := by rw [hZ17]; exact B15.set5V _ _ _ _ _
              have B14 : Blk Z17 X2.heap.size 51 #[.int .i64 x0, .int .i64 x1, .int .i64 p, .int .i64 x3, .int .i64 x4] := by rw [hZ17]; exact B14.turn5 (nn.symm) _ _ _ _ _
              have hcz17 := hcz16.trans bZ17
              clear hZ17 s0 s1 s2 s3 s4 f0 f1 f2 f3 f4
              have c0 := (bZ17.cell (p := ⟨g, t * 5, none⟩) hgz).trans c0
              have c1 := (bZ17.cell (p := ⟨g, t * 5 + 1, none⟩) hgz).trans c1
              have c2 := (bZ17.cell (p := ⟨g, t * 5 + 2, none⟩) hgz).trans c2
              have c3 := (bZ17.cell (p := ⟨g, t * 5 + 3, none⟩) hgz).trans c3
              have c4 := (bZ17.cell (p := ⟨g, t * 5 + 4, none⟩) hgz).trans c4
              have d0 := (bZ17.cell (p := ⟨g, u * 5, none⟩) hgz).trans d0
              have d1 := (bZ17.cell (p := ⟨g, u * 5 + 1, none⟩) hgz).trans d1
              have d2 := (bZ17.cell (p := ⟨g, u * 5 + 2, none⟩) hgz).trans d2
              have d3 := (bZ17.cell (p := ⟨g, u * 5 + 3, none⟩) hgz).trans d3
              have d4 := (bZ17.cell (p := ⟨g, u * 5 + 4, none⟩) hgz).trans d4
              refine hK.out _ _ ⟨c0, c1, c2, c3, c4, d0, d1, d2, d3, d4⟩ (fun hHeld2 => ?_)
              clear hK KK hHeld
              have hHeld := hHeld2
              clear hHeld2
              try simp only [Act.put, List.setIfInBounds_toArray, List.set_cons_zero, List.set_cons_succ, List.getElem_toArray, List.getElem_cons_zero, List.getElem_cons_succ]
              refine wpAnyH_done (by kernel_rfl) ?_ _
              clear hHeld
              go_wp2
              go_meet
              exact ⟨X2.heap.size, V.heap.size, rfl, rfl, zc14, zc15, nn.symm, hcz17, B14, B15⟩
      · go_simp
        obtain ⟨X1, hX1⟩ : ∃ W', W' = World.drew (World.alloc V (.cells #[.int .i64 0, .int .i64 0, .int .i64 0, .int .i64 0, .int .i64 0] 51)) := ⟨_, rfl⟩
        rw [← hX1]
        replace hX1 : X1 = World.alloc V.drew (.cells #[.int .i64 0, .int .i64 0, .int .i64 0, .int .i64 0, .int .i64 0] 51) := hX1
        have bX1 : Below V.drew.heap.size V.drew X1 := by rw [hX1]; exact (Below.refl _ _).alloc (Nat.le_refl _) _
        have B14 : Blk X1 V.heap.size 51 #[.int .i64 0, .int .i64 0, .int .i64 0, .int .i64 0, .int .i64 0] := by rw [hX1]; exact Blk.new _ _ _
        have zX1 := bX1.size
        have gz1 : g < X1.heap.size := Nat.lt_of_lt_of_le gz0 zX1
        have c0 := (bX1.cell (p := ⟨g, t * 5, none⟩) gz0).trans c0
        have c1 := (bX1.cell (p := ⟨g, t * 5 + 1, none⟩) gz0).trans c1
        have c2 := (bX1.cell (p := ⟨g, t * 5 + 2, none⟩) gz0).trans c2
        have c3 := (bX1.cell (p := ⟨g, t * 5 + 3, none⟩) gz0).trans c3
        have c4 := (bX1.cell (p := ⟨g, t * 5 + 4, none⟩) gz0).trans c4
        have d0 := (bX1.cell (p := ⟨g, u * 5, none⟩) gz0).trans d0
        have d1 := (bX1.cell (p := ⟨g, u * 5 + 1, none⟩) gz0).trans d1
        have d2 := (bX1.cell (p := ⟨g, u * 5 + 2, none⟩) gz0).trans d2
        have d3 := (bX1.cell (p := ⟨g, u * 5 + 3, none⟩) gz0).trans d3
        have d4 := (bX1.cell (p := ⟨g, u * 5 + 4, none⟩) gz0).trans d4
        have hc1 := below_next hc0 (Nat.le_refl _) bX1
        have zc14 : V.heap.size ≤ V.heap.size := hc0.size
        have B140 := B14.lt
        clear hX1
        refine hK.out _ _ ⟨c0, c1, c2, c3, c4, d0, d1, d2, d3, d4⟩ (fun hHeld2 => ?_)
        clear hK KK hHeld
        have hHeld := hHeld2
        clear hHeld2
        try simp only [Act.put, List.setIfInBounds_toArray, List.set_cons_zero, List.set_cons_succ, List.getElem_toArray, List.getElem_cons_zero, List.getElem_cons_succ]
        refine wpAnyH_ready (rs := [4, 15]) (by kernel_rfl) (by simp) ?_
        refine (AllReadyH.cons rfl (fun KK hK => ?_) (AllReadyH.cons rfl (fun KK hK => ?_) AllReadyH.nil))
        · go_simp
          go_at_call 11
          refine (mod_any a N (by omega) (by omega) a0 a1 _).mono ?_
          rintro e w' ⟨rfl, rfl⟩
          rw [HMA.out]
          go_wp2_with fail
          refine hK.out _ _ ⟨c0, c1, c2, c3, c4, d0, d1, d2, d3, d4⟩ (fun hHeld2 => ?_)
          clear hK KK hHeld
          have hHeld := hHeld2
          clear hHeld2
          try simp only [Act.put, List.setIfInBounds_toArray, List.set_cons_zero, List.set_cons_succ, List.getElem_toArray, List.getElem_cons_zero, List.getElem_cons_succ]
          (refine wpAnyH_take (i := 5) (v := ?_) rfl (by kernel_rfl) (by kernel_rfl) (by kernel_rfl) (fun _ _ _ h => h) (Or.inl ⟨by rfl, ?_⟩) (by assumption) ?_; rotate_left 1; (focus (rintro w' ⟨k0, k1, k2, k3, k4, l0, l1, l2, l3, l4⟩; go_simp; (try with_reducible rfl); done)); try simp only [Act.put, List.setIfInBounds_toArray, List.set_cons_zero, List.set_cons_succ, List.getElem_toArray, List.getElem_cons_zero, List.getElem_cons_succ])
          (refine wpAnyH_take (i := 6) (v := ?_) rfl (by kernel_rfl) (by kernel_rfl) (by kernel_rfl) (fun _ _ _ h => h) (Or.inl ⟨by rfl, ?_⟩) (by assumption) ?_; rotate_left 1; (focus (rintro w' ⟨k0, k1, k2, k3, k4, l0, l1, l2, l3, l4⟩; go_simp; (try with_reducible rfl); done)); try simp only [Act.put, List.setIfInBounds_toArray, List.set_cons_zero, List.set_cons_succ, List.getElem_toArray, List.getElem_cons_zero, List.getElem_cons_succ])
          refine wpAnyH_ready (rs := [11, 15]) (by kernel_rfl) (by simp) ?_
          refine (AllReadyH.cons rfl (fun KK hK => ?_) (AllReadyH.cons rfl (fun KK hK => ?_) AllReadyH.nil))
          · go_simp
            go_at_call 11
            refine (mod_any b N (by omega) (by omega) b0 b1 _).mono ?_
            rintro e w' ⟨rfl, rfl⟩
            rw [HMB.out]
            go_wp2_with fail
            refine hK.out _ _ ⟨c0, c1, c2, c3, c4, d0, d1, d2, d3, d4⟩ (fun hHeld2 => ?_)
            clear hK KK hHeld
            have hHeld := hHeld2
            clear hHeld2
            try simp only [Act.put, List.setIfInBounds_toArray, List.set_cons_zero, List.set_cons_succ, List.getElem_toArray, List.getElem_cons_zero, List.getElem_cons_succ]
            (refine wpAnyH_take (i := 12) (v := ?_) rfl (by kernel_rfl) (by kernel_rfl) (by kernel_rfl) (fun _ _ _ h => h) (Or.inl ⟨by rfl, ?_⟩) (by assumption) ?_; rotate_left 1; (focus (rintro w' ⟨k0, k1, k2, k3, k4, l0, l1, l2, l3, l4⟩; go_simp; (try with_reducible rfl); done)); try simp only [Act.put, List.setIfInBounds_toArray, List.set_cons_zero, List.set_cons_succ, List.getElem_toArray, List.getElem_cons_zero, List.getElem_cons_succ])
            (refine wpAnyH_take (i := 13) (v := ?_) rfl (by kernel_rfl) (by kernel_rfl) (by kernel_rfl) (fun _ _ _ h => h) (Or.inl ⟨by rfl, ?_⟩) (by assumption) ?_; rotate_left 1; (focus (rintro w' ⟨k0, k1, k2, k3, k4, l0, l1, l2, l3, l4⟩; go_simp; (try with_reducible rfl); done)); try simp only [Act.put, List.setIfInBounds_toArray, List.set_cons_zero, List.set_cons_succ, List.getElem_toArray, List.getElem_cons_zero, List.getElem_cons_succ])
            refine wpAnyH_ready (rs := [15]) (by kernel_rfl) (by simp) ?_
            refine (AllReadyH.cons rfl (fun KK hK => ?_) AllReadyH.nil)
            · go_simp
              obtain ⟨X4, hX4⟩ : ∃ W', W' = World.alloc X1 (.cells #[.int .i64 0, .int .i64 0, .int .i64 0, .int .i64 0, .int .i64 0] 51) := ⟨_, rfl⟩
              rw [← hX4]
              have bX4 : Below X1.heap.size X1 X4 := by rw [hX4]; exact (Below.refl _ _).alloc (Nat.le_refl _) _
              have B15 : Blk X4 X1.heap.size 51 #[.int .i64 0, .int .i64 0, .int .i64 0, .int .i64 0, .int .i64 0] := by rw [hX4]; exact Blk.new _ _ _
              have B14 := B14.next bX4
              have zX4 := bX4.size
              have gz4 : g < X4.heap.size := Nat.lt_of_lt_of_le gz1 zX4
              have c0 := (bX4.cell (p := ⟨g, t * 5, none⟩) gz1).trans c0
              have c1 := (bX4.cell (p := ⟨g, t * 5 + 1, none⟩) gz1).trans c1
              have c2 := (bX4.cell (p := ⟨g, t * 5 + 2, none⟩) gz1).trans c2
              have c3 := (bX4.cell (p := ⟨g, t * 5 + 3, none⟩) gz1).trans c3
              have c4 := (bX4.cell (p := ⟨g, t * 5 + 4, none⟩) gz1).trans c4
              have d0 := (bX4.cell (p := ⟨g, u * 5, none⟩) gz1).trans d0
              have d1 := (bX4.cell (p := ⟨g, u * 5 + 1, none⟩) gz1).trans d1
              have d2 := (bX4.cell (p := ⟨g, u * 5 + 2, none⟩) gz1).trans d2
              have d3 := (bX4.cell (p := ⟨g, u * 5 + 3, none⟩) gz1).trans d3
              have d4 := (bX4.cell (p := ⟨g, u * 5 + 4, none⟩) gz1).trans d4
              have hc4 := below_next hc1 (Nat.le_refl _) bX4
              have zc15 : V.heap.size ≤ X1.heap.size := hc1.size
              have nn : V.heap.size ≠ X1.heap.size := by have := B140; omega
              clear hX4
              refine hK.out _ _ ⟨c0, c1, c2, c3, c4, d0, d1, d2, d3, d4⟩ (fun hHeld2 => ?_)
              clear hK KK hHeld
              have hHeld := hHeld2
              clear hHeld2
              try simp only [Act.put, List.setIfInBounds_toArray, List.set_cons_zero, List.set_cons_succ, List.getElem_toArray, List.getElem_cons_zero, List.getElem_cons_succ]
              have s0 := B14.cell 0
              have s1 := B14.cell 1
              have s2 := B14.cell 2
              have s3 := B14.cell 3
              have s4 := B14.cell 4
              have f0 := B14.frozen 0
              have f1 := B14.frozen 1
              have f2 := B14.frozen 2
              have f3 := B14.frozen 3
              have f4 := B14.frozen 4
              simp at s0 s1 s2 s3 s4
              refine wpAnyH_ready (rs := [16]) (by kernel_rfl) (by simp) ?_
              refine AllReadyH.cons rfl (fun KK hK => ?_) AllReadyH.nil
              go_simp
              obtain ⟨Z16, hZ16⟩ : ∃ W', W' = (((((X4.setCell ⟨V.heap.size, 0, none⟩ (.int .i64 x0)).setCell ⟨V.heap.size, 1, none⟩ (.int .i64 x1)).setCell ⟨V.heap.size, 2, none⟩ (.int .i64 p)).setCell ⟨V.heap.size, 3, none⟩ (.int .i64 x3)).setCell ⟨V.heap.size, 4, none⟩ (.int .i64 x4)) := ⟨_, rfl⟩
              rw [← hZ16]
              have bZ16 : Below V.heap.size X4 Z16 := by rw [hZ16]; exact below_set5V (Below.refl _ _) zc14 _ _ _ _ _
              have B14 : Blk Z16 V.heap.size 51 #[.int .i64 x0, .int .i64 x1, .int .i64 p, .int .i64 x3, .int .i64 x4] := by rw [hZ16]; exact B14.set5V _ _ _ _ _
              have B15 : Blk Z16 X1.heap.size 51 #[.int .i64 0, .int .i64 0, .int .i64 0, .int .i64 0, .int .i64 0] := by rw [hZ16]; exact B15.turn5 (nn.symm) _ _ _ _ _
              have hcz16 := hc4.trans bZ16
              clear hZ16 s0 s1 s2 s3 s4 f0 f1 f2 f3 f4
              have c0 := (bZ16.cell (p := ⟨g, t * 5, none⟩) hgz).trans c0
              have c1 := (bZ16.cell (p := ⟨g, t * 5 + 1, none⟩) hgz).trans c1
              have c2 := (bZ16.cell (p := ⟨g, t * 5 + 2, none⟩) hgz).trans c2
              have c3 := (bZ16.cell (p := ⟨g, t * 5 + 3, none⟩) hgz).trans c3
              have c4 := (bZ16.cell (p := ⟨g, t * 5 + 4, none⟩) hgz).trans c4
              have d0 := (bZ16.cell (p := ⟨g, u * 5, none⟩) hgz).trans d0
              have d1 := (bZ16.cell (p := ⟨g, u * 5 + 1, none⟩) hgz).trans d1
              have d2 := (bZ16.cell (p := ⟨g, u * 5 + 2, none⟩) hgz).trans d2
              have d3 := (bZ16.cell (p := ⟨g, u * 5 + 3, none⟩) hgz).trans d3
              have d4 := (bZ16.cell (p := ⟨g, u * 5 + 4, none⟩) hgz).trans d4
              refine hK.out _ _ ⟨c0, c1, c2, c3, c4, d0, d1, d2, d3, d4⟩ (fun hHeld2 => ?_)
              clear hK KK hHeld
              have hHeld := hHeld2
              clear hHeld2
              try simp only [Act.put, List.setIfInBounds_toArray, List.set_cons_zero, List.set_cons_succ, List.getElem_toArray, List.getElem_cons_zero, List.getElem_cons_succ]
              have s0 := B15.cell 0
              have s1 := B15.cell 1
              have s2 := B15.cell 2
              have s3 := B15.cell 3
              have s4 := B15.cell 4
              have f0 := B15.frozen 0
              have f1 := B15.frozen 1
              have f2 := B15.frozen 2
              have f3 := B15.frozen 3
              have f4 := B15.frozen 4
              simp at s0 s1 s2 s3 s4
              refine wpAnyH_ready (rs := [17]) (by kernel_rfl) (by simp) ?_
              refine AllReadyH.cons rfl (fun KK hK => ?_) AllReadyH.nil
              go_simp
              obtain ⟨Z17, hZ17⟩ : ∃ W', W' = (((((Z16.setCell ⟨X1.heap.size, 0, none⟩ (.int .i64 y0)).setCell ⟨X1.heap.size, 1, none⟩ (.int .i64 y1)).setCell ⟨X1.heap.size, 2, none⟩ (.int .i64 p')).setCell ⟨X1.heap.size, 3, none⟩ (.int .i64 y3)).setCell ⟨X1.heap.size, 4, none⟩ (.int .i64 y4)) := ⟨_, rfl⟩
              rw [← hZ17]
              have bZ17 : Below V.heap.size Z16 Z17 := by rw [hZ17]; exact below_set5V (Below.refl _ _) zc15 _ _ _ _ _
              have B15 : Blk Z17 X1.heap.size 51 #[.int .i64 y0, .int .i64 y1, .int .i64 p', .int .i64 y3, .int .i64 y4] := by rw [hZ17]; exact B15.set5V _ _ _ _ _
              have B14 : Blk Z17 V.heap.size 51 #[.int .i64 x0, .int .i64 x1, .int .i64 p, .int .i64 x3, .int .i64 x4] := by rw [hZ17]; exact B14.turn5 (nn) _ _ _ _ _
              have hcz17 := hcz16.trans bZ17
              clear hZ17 s0 s1 s2 s3 s4 f0 f1 f2 f3 f4
              have c0 := (bZ17.cell (p := ⟨g, t * 5, none⟩) hgz).trans c0
              have c1 := (bZ17.cell (p := ⟨g, t * 5 + 1, none⟩) hgz).trans c1
              have c2 := (bZ17.cell (p := ⟨g, t * 5 + 2, none⟩) hgz).trans c2
              have c3 := (bZ17.cell (p := ⟨g, t * 5 + 3, none⟩) hgz).trans c3
              have c4 := (bZ17.cell (p := ⟨g, t * 5 + 4, none⟩) hgz).trans c4
              have d0 := (bZ17.cell (p := ⟨g, u * 5, none⟩) hgz).trans d0
              have d1 := (bZ17.cell (p := ⟨g, u * 5 + 1, none⟩) hgz).trans d1
              have d2 := (bZ17.cell (p := ⟨g, u * 5 + 2, none⟩) hgz).trans d2
              have d3 := (bZ17.cell (p := ⟨g, u * 5 + 3, none⟩) hgz).trans d3
              have d4 := (bZ17.cell (p := ⟨g, u * 5 + 4, none⟩) hgz).trans d4
              refine hK.out _ _ ⟨c0, c1, c2, c3, c4, d0, d1, d2, d3, d4⟩ (fun hHeld2 => ?_)
              clear hK KK hHeld
              have hHeld := hHeld2
              clear hHeld2
              try simp only [Act.put, List.setIfInBounds_toArray, List.set_cons_zero, List.set_cons_succ, List.getElem_toArray, List.getElem_cons_zero, List.getElem_cons_succ]
              refine wpAnyH_done (by kernel_rfl) ?_ _
              clear hHeld
              go_wp2
              go_meet
              exact ⟨V.heap.size, X1.heap.size, rfl, rfl, zc14, zc15, nn, hcz17, B14, B15⟩
          · go_simp
            obtain ⟨X3, hX3⟩ : ∃ W', W' = World.alloc X1 (.cells #[.int .i64 0, .int .i64 0, .int .i64 0, .int .i64 0, .int .i64 0] 51) := ⟨_, rfl⟩
            rw [← hX3]
            have bX3 : Below X1.heap.size X1 X3 := by rw [hX3]; exact (Below.refl _ _).alloc (Nat.le_refl _) _
            have B15 : Blk X3 X1.heap.size 51 #[.int .i64 0, .int .i64 0, .int .i64 0, .int .i64 0, .int .i64 0] := by rw [hX3]; exact Blk.new _ _ _
            have B14 := B14.next bX3
            have zX3 := bX3.size
            have gz3 : g < X3.heap.size := Nat.lt_of_lt_of_le gz1 zX3
            have c0 := (bX3.cell (p := ⟨g, t * 5, none⟩) gz1).trans c0
            have c1 := (bX3.cell (p := ⟨g, t * 5 + 1, none⟩) gz1).trans c1
            have c2 := (bX3.cell (p := ⟨g, t * 5 + 2, none⟩) gz1).trans c2
            have c3 := (bX3.cell (p := ⟨g, t * 5 + 3, none⟩) gz1).trans c3
            have c4 := (bX3.cell (p := ⟨g, t * 5 + 4, none⟩) gz1).trans c4
            have d0 := (bX3.cell (p := ⟨g, u * 5, none⟩) gz1).trans d0
            have d1 := (bX3.cell (p := ⟨g, u * 5 + 1, none⟩) gz1).trans d1
            have d2 := (bX3.cell (p := ⟨g, u * 5 + 2, none⟩) gz1).trans d2
            have d3 := (bX3.cell (p := ⟨g, u * 5 + 3, none⟩) gz1).trans d3
            have d4 := (bX3.cell (p := ⟨g, u * 5 + 4, none⟩) gz1).trans d4
            have hc3 := below_next hc1 (Nat.le_refl _) bX3
            have zc15 : V.heap.size ≤ X1.heap.size := hc1.size
            have nn : V.heap.size ≠ X1.heap.size := by have := B140; omega
            clear hX3
            refine hK.out _ _ ⟨c0, c1, c2, c3, c4, d0, d1, d2, d3, d4⟩ (fun hHeld2 => ?_)
            clear hK KK hHeld
            have hHeld := hHeld2
            clear hHeld2
            try simp only [Act.put, List.setIfInBounds_toArray, List.set_cons_zero, List.set_cons_succ, List.getElem_toArray, List.getElem_cons_zero, List.getElem_cons_succ]
            refine wpAnyH_ready (rs := [11]) (by kernel_rfl) (by simp) ?_
            refine (AllReadyH.cons rfl (fun KK hK => ?_) AllReadyH.nil)
            · go_simp
              go_at_call 11
              refine (mod_any b N (by omega) (by omega) b0 b1 _).mono ?_
              rintro e w' ⟨rfl, rfl⟩
              rw [HMB.out]
              go_wp2_with fail
              refine hK.out _ _ ⟨c0, c1, c2, c3, c4, d0, d1, d2, d3, d4⟩ (fun hHeld2 => ?_)
              clear hK KK hHeld
              have hHeld := hHeld2
              clear hHeld2
              try simp only [Act.put, List.setIfInBounds_toArray, List.set_cons_zero, List.set_cons_succ, List.getElem_toArray, List.getElem_cons_zero, List.getElem_cons_succ]
              (refine wpAnyH_take (i := 12) (v := ?_) rfl (by kernel_rfl) (by kernel_rfl) (by kernel_rfl) (fun _ _ _ h => h) (Or.inl ⟨by rfl, ?_⟩) (by assumption) ?_; rotate_left 1; (focus (rintro w' ⟨k0, k1, k2, k3, k4, l0, l1, l2, l3, l4⟩; go_simp; (try with_reducible rfl); done)); try simp only [Act.put, List.setIfInBounds_toArray, List.set_cons_zero, List.set_cons_succ, List.getElem_toArray, List.getElem_cons_zero, List.getElem_cons_succ])
              (refine wpAnyH_take (i := 13) (v := ?_) rfl (by kernel_rfl) (by kernel_rfl) (by kernel_rfl) (fun _ _ _ h => h) (Or.inl ⟨by rfl, ?_⟩) (by assumption) ?_; rotate_left 1; (focus (rintro w' ⟨k0, k1, k2, k3, k4, l0, l1, l2, l3, l4⟩; go_simp; (try with_reducible rfl); done)); try simp only [Act.put, List.setIfInBounds_toArray, List.set_cons_zero, List.set_cons_succ, List.getElem_toArray, List.getElem_cons_zero, List.getElem_cons_succ])
              have s0 := B14.cell 0
              have s1 := B14.cell 1
              have s2 := B14.cell 2
              have s3 := B14.cell 3
              have s4 := B14.cell 4
              have f0 := B14.frozen 0
              have f1 := B14.frozen 1
              have f2 := B14.frozen 2
              have f3 := B14.frozen 3
              have f4 := B14.frozen 4
              simp at s0 s1 s2 s3 s4
              refine wpAnyH_ready (rs := [16]) (by kernel_rfl) (by simp) ?_
              refine AllReadyH.cons rfl (fun KK hK => ?_) AllReadyH.nil
              go_simp
              obtain ⟨Z16, hZ16⟩ : ∃ W', W' = (((((X3.setCell ⟨V.heap.size, 0, none⟩ (.int .i64 x0)).setCell ⟨V.heap.size, 1, none⟩ (.int .i64 x1)).setCell ⟨V.heap.size, 2, none⟩ (.int .i64 p)).setCell ⟨V.heap.size, 3, none⟩ (.int .i64 x3)).setCell ⟨V.heap.size, 4, none⟩ (.int .i64 x4)) := ⟨_, rfl⟩
              rw [← hZ16]
              have bZ16 : Below V.heap.size X3 Z16 := by rw [hZ16]; exact below_set5V (Below.refl _ _) zc14 _ _ _ _ _
              have B14 : Blk Z16 V.heap.size 51 #[.int .i64 x0, .int .i64 x1, .int .i64 p, .int .i64 x3, .int .i64 x4] := by rw [hZ16]; exact B14.set5V _ _ _ _ _
              have B15 : Blk Z16 X1.heap.size 51 #[.int .i64 0, .int .i64 0, .int .i64 0, .int .i64 0, .int .i64 0] := by rw [hZ16]; exact B15.turn5 (nn.symm) _ _ _ _ _
              have hcz16 := hc3.trans bZ16
              clear hZ16 s0 s1 s2 s3 s4 f0 f1 f2 f3 f4
              have c0 := (bZ16.cell (p := ⟨g, t * 5, none⟩) hgz).trans c0
              have c1 := (bZ16.cell (p := ⟨g, t * 5 + 1, none⟩) hgz).trans c1
              have c2 := (bZ16.cell (p := ⟨g, t * 5 + 2, none⟩) hgz).trans c2
              have c3 := (bZ16.cell (p := ⟨g, t * 5 + 3, none⟩) hgz).trans c3
              have c4 := (bZ16.cell (p := ⟨g, t * 5 + 4, none⟩) hgz).trans c4
              have d0 := (bZ16.cell (p := ⟨g, u * 5, none⟩) hgz).trans d0
              have d1 := (bZ16.cell (p := ⟨g, u * 5 + 1, none⟩) hgz).trans d1
              have d2 := (bZ16.cell (p := ⟨g, u * 5 + 2, none⟩) hgz).trans d2
              have d3 := (bZ16.cell (p := ⟨g, u * 5 + 3, none⟩) hgz).trans d3
              have d4 := (bZ16.cell (p := ⟨g, u * 5 + 4, none⟩) hgz).trans d4
              refine hK.out _ _ ⟨c0, c1, c2, c3, c4, d0, d1, d2, d3, d4⟩ (fun hHeld2 => ?_)
              clear hK KK hHeld
              have hHeld := hHeld2
              clear hHeld2
              try simp only [Act.put, List.setIfInBounds_toArray, List.set_cons_zero, List.set_cons_succ, List.getElem_toArray, List.getElem_cons_zero, List.getElem_cons_succ]
              have s0 := B15.cell 0
              have s1 := B15.cell 1
              have s2 := B15.cell 2
              have s3 := B15.cell 3
              have s4 := B15.cell 4
              have f0 := B15.frozen 0
              have f1 := B15.frozen 1
              have f2 := B15.frozen 2
              have f3 := B15.frozen 3
              have f4 := B15.frozen 4
              simp at s0 s1 s2 s3 s4
              refine wpAnyH_ready (rs := [17]) (by kernel_rfl) (by simp) ?_
              refine AllReadyH.cons rfl (fun KK hK => ?_) AllReadyH.nil
              go_simp
              obtain ⟨Z17, hZ17⟩ : ∃ W', W' = (((((Z16.setCell ⟨X1.heap.size, 0, none⟩ (.int .i64 y0)).setCell ⟨X1.heap.size, 1, none⟩ (.int .i64 y1)).setCell ⟨X1.heap.size, 2, none⟩ (.int .i64 p')).setCell ⟨X1.heap.size, 3, none⟩ (.int .i64 y3)).setCell ⟨X1.heap.size, 4, none⟩ (.int .i64 y4)) := ⟨_, rfl⟩
              rw [← hZ17]
              have bZ17 : Below V.heap.size Z16 Z17 := by rw [hZ17]; exact below_set5V (Below.refl _ _) zc15 _ _ _ _ _
              have B15 : Blk Z17 X1.heap.size 51 #[.int .i64 y0, .int .i64 y1, .int .i64 p', .int .i64 y3, .int .i64 y4] := by rw [hZ17]; exact B15.set5V _ _ _ _ _
              have B14 : Blk Z17 V.heap.size 51 #[.int .i64 x0, .int .i64 x1, .int .i64 p, .int .i64 x3, .int .i64 x4] := by rw [hZ17]; exact B14.turn5 (nn) _ _ _ _ _
              have hcz17 := hcz16.trans bZ17
              clear hZ17 s0 s1 s2 s3 s4 f0 f1 f2 f3 f4
              have c0 := (bZ17.cell (p := ⟨g, t * 5, none⟩) hgz).trans c0
              have c1 := (bZ17.cell (p := ⟨g, t * 5 + 1, none⟩) hgz).trans c1
              have c2 := (bZ17.cell (p := ⟨g, t * 5 + 2, none⟩) hgz).trans c2
              have c3 := (bZ17.cell (p := ⟨g, t * 5 + 3, none⟩) hgz).trans c3
              have c4 := (bZ17.cell (p := ⟨g, t * 5 + 4, none⟩) hgz).trans c4
              have d0 := (bZ17.cell (p := ⟨g, u * 5, none⟩) hgz).trans d0
              have d1 := (bZ17.cell (p := ⟨g, u * 5 + 1, none⟩) hgz).trans d1
              have d2 := (bZ17.cell (p := ⟨g, u * 5 + 2, none⟩) hgz).trans d2
              have d3 := (bZ17.cell (p := ⟨g, u * 5 + 3, none⟩) hgz).trans d3
              have d4 := (bZ17.cell (p := ⟨g, u * 5 + 4, none⟩) hgz).trans d4
              refine hK.out _ _ ⟨c0, c1, c2, c3, c4, d0, d1, d2, d3, d4⟩ (fun hHeld2 => ?_)
              clear hK KK hHeld
              have hHeld := hHeld2
              clear hHeld2
              try simp only [Act.put, List.setIfInBounds_toArray, List.set_cons_zero, List.set_cons_succ, List.getElem_toArray, List.getElem_cons_zero, List.getElem_cons_succ]
              refine wpAnyH_done (by kernel_rfl) ?_ _
              clear hHeld
              go_wp2
              go_meet
              exact ⟨V.heap.size, X1.heap.size, rfl, rfl, zc14, zc15, nn, hcz17, B14, B15⟩
        · go_simp
          obtain ⟨X2, hX2⟩ : ∃ W', W' = World.alloc X1 (.cells #[.int .i64 0, .int .i64 0, .int .i64 0, .int .i64 0, .int .i64 0] 51) := ⟨_, rfl⟩
          rw [← hX2]
          have bX2 : Below X1.heap.size X1 X2 := by rw [hX2]; exact (Below.refl _ _).alloc (Nat.le_refl _) _
          have B15 : Blk X2 X1.heap.size 51 #[.int .i64 0, .int .i64 0, .int .i64 0, .int .i64 0, .int .i64 0] := by rw [hX2]; exact Blk.new _ _ _
          have B14 := B14.next bX2
          have zX2 := bX2.size
          have gz2 : g < X2.heap.size := Nat.lt_of_lt_of_le gz1 zX2
          have c0 := (bX2.cell (p := ⟨g, t * 5, none⟩) gz1).trans c0
          have c1 := (bX2.cell (p := ⟨g, t * 5 + 1, none⟩) gz1).trans c1
          have c2 := (bX2.cell (p := ⟨g, t * 5 + 2, none⟩) gz1).trans c2
          have c3 := (bX2.cell (p := ⟨g, t * 5 + 3, none⟩) gz1).trans c3
          have c4 := (bX2.cell (p := ⟨g, t * 5 + 4, none⟩) gz1).trans c4
          have d0 := (bX2.cell (p := ⟨g, u * 5, none⟩) gz1).trans d0
          have d1 := (bX2.cell (p := ⟨g, u * 5 + 1, none⟩) gz1).trans d1
          have d2 := (bX2.cell (p := ⟨g, u * 5 + 2, none⟩) gz1).trans d2
          have d3 := (bX2.cell (p := ⟨g, u * 5 + 3, none⟩) gz1).trans d3
          have d4 := (bX2.cell (p := ⟨g, u * 5 + 4, none⟩) gz1).trans d4
          have hc2 := below_next hc1 (Nat.le_refl _) bX2
          have zc15 : V.heap.size ≤ X1.heap.size := hc1.size
          have nn : V.heap.size ≠ X1.heap.size := by have := B140; omega
          clear hX2
          refine hK.out _ _ ⟨c0, c1, c2, c3, c4, d0, d1, d2, d3, d4⟩ (fun hHeld2 => ?_)
          clear hK KK hHeld
          have hHeld := hHeld2
          clear hHeld2
          try simp only [Act.put, List.setIfInBounds_toArray, List.set_cons_zero, List.set_cons_succ, List.getElem_toArray, List.getElem_cons_zero, List.getElem_cons_succ]
          refine wpAnyH_ready (rs := [4]) (by kernel_rfl) (by simp) ?_
          refine (AllReadyH.cons rfl (fun KK hK => ?_) AllReadyH.nil)
          · go_simp
            go_at_call 11
            refine (mod_any a N (by omega) (by omega) a0 a1 _).mono ?_
            rintro e w' ⟨rfl, rfl⟩
            rw [HMA.out]
            go_wp2_with fail
            refine hK.out _ _ ⟨c0, c1, c2, c3, c4, d0, d1, d2, d3, d4⟩ (fun hHeld2 => ?_)
            clear hK KK hHeld
            have hHeld := hHeld2
            clear hHeld2
            try simp only [Act.put, List.setIfInBounds_toArray, List.set_cons_zero, List.set_cons_succ, List.getElem_toArray, List.getElem_cons_zero, List.getElem_cons_succ]
            (refine wpAnyH_take (i := 5) (v := ?_) rfl (by kernel_rfl) (by kernel_rfl) (by kernel_rfl) (fun _ _ _ h => h) (Or.inl ⟨by rfl, ?_⟩) (by assumption) ?_; rotate_left 1; (focus (rintro w' ⟨k0, k1, k2, k3, k4, l0, l1, l2, l3, l4⟩; go_simp; (try with_reducible rfl); done)); try simp only [Act.put, List.setIfInBounds_toArray, List.set_cons_zero, List.set_cons_succ, List.getElem_toArray, List.getElem_cons_zero, List.getElem_cons_succ])
            (refine wpAnyH_take (i := 6) (v := ?_) rfl (by kernel_rfl) (by kernel_rfl) (by kernel_rfl) (fun _ _ _ h => h) (Or.inl ⟨by rfl, ?_⟩) (by assumption) ?_; rotate_left 1; (focus (rintro w' ⟨k0, k1, k2, k3, k4, l0, l1, l2, l3, l4⟩; go_simp; (try with_reducible rfl); done)); try simp only [Act.put, List.setIfInBounds_toArray, List.set_cons_zero, List.set_cons_succ, List.getElem_toArray, List.getElem_cons_zero, List.getElem_cons_succ])
            refine wpAnyH_ready (rs := [11]) (by kernel_rfl) (by simp) ?_
            refine (AllReadyH.cons rfl (fun KK hK => ?_) AllReadyH.nil)
            · go_simp
              go_at_call 11
              refine (mod_any b N (by omega) (by omega) b0 b1 _).mono ?_
              rintro e w' ⟨rfl, rfl⟩
              rw [HMB.out]
              go_wp2_with fail
              refine hK.out _ _ ⟨c0, c1, c2, c3, c4, d0, d1, d2, d3, d4⟩ (fun hHeld2 => ?_)
              clear hK KK hHeld
              have hHeld := hHeld2
              clear hHeld2
              try simp only [Act.put, List.setIfInBounds_toArray, List.set_cons_zero, List.set_cons_succ, List.getElem_toArray, List.getElem_cons_zero, List.getElem_cons_succ]
              (refine wpAnyH_take (i := 12) (v := ?_) rfl (by kernel_rfl) (by kernel_rfl) (by kernel_rfl) (fun _ _ _ h => h) (Or.inl ⟨by rfl, ?_⟩) (by assumption) ?_; rotate_left 1; (focus (rintro w' ⟨k0, k1, k2, k3, k4, l0, l1, l2, l3, l4⟩; go_simp; (try with_reducible rfl); done)); try simp only [Act.put, List.setIfInBounds_toArray, List.set_cons_zero, List.set_cons_succ, List.getElem_toArray, List.getElem_cons_zero, List.getElem_cons_succ])
              (refine wpAnyH_take (i := 13) (v := ?_) rfl (by kernel_rfl) (by kernel_rfl) (by kernel_rfl) (fun _ _ _ h => h) (Or.inl ⟨by rfl, ?_⟩) (by assumption) ?_; rotate_left 1; (focus (rintro w' ⟨k0, k1, k2, k3, k4, l0, l1, l2, l3, l4⟩; go_simp; (try with_reducible rfl); done)); try simp only [Act.put, List.setIfInBounds_toArray, List.set_cons_zero, List.set_cons_succ, List.getElem_toArray, List.getElem_cons_zero, List.getElem_cons_succ])
              have s0 := B14.cell 0
              have s1 := B14.cell 1
              have s2 := B14.cell 2
              have s3 := B14.cell 3
              have s4 := B14.cell 4
              have f0 := B14.frozen 0
              have f1 := B14.frozen 1
              have f2 := B14.frozen 2
              have f3 := B14.frozen 3
              have f4 := B14.frozen 4
              simp at s0 s1 s2 s3 s4
              refine wpAnyH_ready (rs := [16]) (by kernel_rfl) (by simp) ?_
              refine AllReadyH.cons rfl (fun KK hK => ?_) AllReadyH.nil
              go_simp
              obtain ⟨Z16, hZ16⟩ : ∃ W', W' = (((((X2.setCell ⟨V.heap.size, 0, none⟩ (.int .i64 x0)).setCell ⟨V.heap.size, 1, none⟩ (.int .i64 x1)).setCell ⟨V.heap.size, 2, none⟩ (.int .i64 p)).setCell ⟨V.heap.size, 3, none⟩ (.int .i64 x3)).setCell ⟨V.heap.size, 4, none⟩ (.int .i64 x4)) := ⟨_, rfl⟩
              rw [← hZ16]
              have bZ16 : Below V.heap.size X2 Z16 := by rw [hZ16]; exact below_set5V (Below.refl _ _) zc14 _ _ _ _ _
              have B14 : Blk Z16 V.heap.size 51 #[.int .i64 x0, .int .i64 x1, .int .i64 p, .int .i64 x3, .int .i64 x4] := by rw [hZ16]; exact B14.set5V _ _ _ _ _
              have B15 : Blk Z16 X1.heap.size 51 #[.int .i64 0, .int .i64 0, .int .i64 0, .int .i64 0, .int .i64 0] := by rw [hZ16]; exact B15.turn5 (nn.symm) _ _ _ _ _
              have hcz16 := hc2.trans bZ16
              clear hZ16 s0 s1 s2 s3 s4 f0 f1 f2 f3 f4
              have c0 := (bZ16.cell (p := ⟨g, t * 5, none⟩) hgz).trans c0
              have c1 := (bZ16.cell (p := ⟨g, t * 5 + 1, none⟩) hgz).trans c1
              have c2 := (bZ16.cell (p := ⟨g, t * 5 + 2, none⟩) hgz).trans c2
              have c3 := (bZ16.cell (p := ⟨g, t * 5 + 3, none⟩) hgz).trans c3
              have c4 := (bZ16.cell (p := ⟨g, t * 5 + 4, none⟩) hgz).trans c4
              have d0 := (bZ16.cell (p := ⟨g, u * 5, none⟩) hgz).trans d0
              have d1 := (bZ16.cell (p := ⟨g, u * 5 + 1, none⟩) hgz).trans d1
              have d2 := (bZ16.cell (p := ⟨g, u * 5 + 2, none⟩) hgz).trans d2
              have d3 := (bZ16.cell (p := ⟨g, u * 5 + 3, none⟩) hgz).trans d3
              have d4 := (bZ16.cell (p := ⟨g, u * 5 + 4, none⟩) hgz).trans d4
              refine hK.out _ _ ⟨c0, c1, c2, c3, c4, d0, d1, d2, d3, d4⟩ (fun hHeld2 => ?_)
              clear hK KK hHeld
              have hHeld := hHeld2
              clear hHeld2
              try simp only [Act.put, List.setIfInBounds_toArray, List.set_cons_zero, List.set_cons_succ, List.getElem_toArray, List.getElem_cons_zero, List.getElem_cons_succ]
              have s0 := B15.cell 0
              have s1 := B15.cell 1
              have s2 := B15.cell 2
              have s3 := B15.cell 3
              have s4 := B15.cell 4
              have f0 := B15.frozen 0
              have f1 := B15.frozen 1
              have f2 := B15.frozen 2
              have f3 := B15.frozen 3
              have f4 := B15.frozen 4
              simp at s0 s1 s2 s3 s4
              refine wpAnyH_ready (rs := [17]) (by kernel_rfl) (by simp) ?_
              refine AllReadyH.cons rfl (fun KK hK => ?_) AllReadyH.nil
              go_simp
              obtain ⟨Z17, hZ17⟩ : ∃ W', W' = (((((Z16.setCell ⟨X1.heap.size, 0, none⟩ (.int .i64 y0)).setCell ⟨X1.heap.size, 1, none⟩ (.int .i64 y1)).setCell ⟨X1.heap.size, 2, none⟩ (.int .i64 p')).setCell ⟨X1.heap.size, 3, none⟩ (.int .i64 y3)).setCell ⟨X1.heap.size, 4, none⟩ (.int .i64 y4)) := ⟨_, rfl⟩
              rw [← hZ17]
              have bZ17 : Below V.heap.size Z16 Z17 := by rw [hZ17]; exact below_set5V (Below.refl _ _) zc15 _ _ _ _ _
              have B15 : Blk Z17 X1.heap.size 51 #[.int .i64 y0, .int .i64 y1, .int .i64 p', .int .i64 y3, .int .i64 y4] := by rw [hZ17]; exact B15.set5V _ _ _ _ _
              have B14 : Blk Z17 V.heap.size 51 #[.int .i64 x0, .int .i64 x1, .int .i64 p, .int .i64 x3, .int .i64 x4] := by rw [hZ17]; exact B14.turn5 (nn) _ _ _ _ _
              have hcz17 := hcz16.trans bZ17
              clear hZ17 s0 s1 s2 s3 s4 f0 f1 f2 f3 f4
              have c0 := (bZ17.cell (p := ⟨g, t * 5, none⟩) hgz).trans c0
              have c1 := (bZ17.cell (p := ⟨g, t * 5 + 1, none⟩) hgz).trans c1
              have c2 := (bZ17.cell (p := ⟨g, t * 5 + 2, none⟩) hgz).trans c2
              have c3 := (bZ17.cell (p := ⟨g, t * 5 + 3, none⟩) hgz).trans c3
              have c4 := (bZ17.cell (p := ⟨g, t * 5 + 4, none⟩) hgz).trans c4
              have d0 := (bZ17.cell (p := ⟨g, u * 5, none⟩) hgz).trans d0
              have d1 := (bZ17.cell (p := ⟨g, u * 5 + 1, none⟩) hgz).trans d1
              have d2 := (bZ17.cell (p := ⟨g, u * 5 + 2, none⟩) hgz).trans d2
              have d3 := (bZ17.cell (p := ⟨g, u * 5 + 3, none⟩) hgz).trans d3
              have d4 := (bZ17.cell (p := ⟨g, u * 5 + 4, none⟩) hgz).trans d4
              refine hK.out _ _ ⟨c0, c1, c2, c3, c4, d0, d1, d2, d3, d4⟩ (fun hHeld2 => ?_)
              clear hK KK hHeld
              have hHeld := hHeld2
              clear hHeld2
              try simp only [Act.put, List.setIfInBounds_toArray, List.set_cons_zero, List.set_cons_succ, List.getElem_toArray, List.getElem_cons_zero, List.getElem_cons_succ]
              refine wpAnyH_done (by kernel_rfl) ?_ _
              clear hHeld
              go_wp2
              go_meet
              exact ⟨V.heap.size, X1.heap.size, rfl, rfl, zc14, zc15, nn, hcz17, B14, B15⟩
      · go_simp
        obtain ⟨X1, hX1⟩ : ∃ W', W' = World.drew (World.alloc V (.cells #[.int .i64 0, .int .i64 0, .int .i64 0, .int .i64 0, .int .i64 0] 51)) := ⟨_, rfl⟩
        rw [← hX1]
        replace hX1 : X1 = World.alloc V.drew (.cells #[.int .i64 0, .int .i64 0, .int .i64 0, .int .i64 0, .int .i64 0] 51) := hX1
        have bX1 : Below V.drew.heap.size V.drew X1 := by rw [hX1]; exact (Below.refl _ _).alloc (Nat.le_refl _) _
        have B15 : Blk X1 V.heap.size 51 #[.int .i64 0, .int .i64 0, .int .i64 0, .int .i64 0, .int .i64 0] := by rw [hX1]; exact Blk.new _ _ _
        have zX1 := bX1.size
        have gz1 : g < X1.heap.size := Nat.lt_of_lt_of_le gz0 zX1
        have c0 := (bX1.cell (p := ⟨g, t * 5, none⟩) gz0).trans c0
        have c1 := (bX1.cell (p := ⟨g, t * 5 + 1, none⟩) gz0).trans c1
        have c2 := (bX1.cell (p := ⟨g, t * 5 + 2, none⟩) gz0).trans c2
        have c3 := (bX1.cell (p := ⟨g, t * 5 + 3, none⟩) gz0).trans c3
        have c4 := (bX1.cell (p := ⟨g, t * 5 + 4, none⟩) gz0).trans c4
        have d0 := (bX1.cell (p := ⟨g, u * 5, none⟩) gz0).trans d0
        have d1 := (bX1.cell (p := ⟨g, u * 5 + 1, none⟩) gz0).trans d1
        have d2 := (bX1.cell (p := ⟨g, u * 5 + 2, none⟩) gz0).trans d2
        have d3 := (bX1.cell (p := ⟨g, u * 5 + 3, none⟩) gz0).trans d3
        have d4 := (bX1.cell (p := ⟨g, u * 5 + 4, none⟩) gz0).trans d4
        have hc1 := below_next hc0 (Nat.le_refl _) bX1
        have zc15 : V.heap.size ≤ V.heap.size := hc0.size
        have B150 := B15.lt
        clear hX1
        refine hK.out _ _ ⟨c0, c1, c2, c3, c4, d0, d1, d2, d3, d4⟩ (fun hHeld2 => ?_)
        clear hK KK hHeld
        have hHeld := hHeld2
        clear hHeld2
        try simp only [Act.put, List.setIfInBounds_toArray, List.set_cons_zero, List.set_cons_succ, List.getElem_toArray, List.getElem_cons_zero, List.getElem_cons_succ]
        refine wpAnyH_ready (rs := [4, 14]) (by kernel_rfl) (by simp) ?_
        refine (AllReadyH.cons rfl (fun KK hK => ?_) (AllReadyH.cons rfl (fun KK hK => ?_) AllReadyH.nil))
        · go_simp
          go_at_call 11
          refine (mod_any a N (by omega) (by omega) a0 a1 _).mono ?_
          rintro e w' ⟨rfl, rfl⟩
          rw [HMA.out]
          go_wp2_with fail
          refine hK.out _ _ ⟨c0, c1, c2, c3, c4, d0, d1, d2, d3, d4⟩ (fun hHeld2 => ?_)
          clear hK KK hHeld
          have hHeld := hHeld2
          clear hHeld2
          try simp only [Act.put, List.setIfInBounds_toArray, List.set_cons_zero, List.set_cons_succ, List.getElem_toArray, List.getElem_cons_zero, List.getElem_cons_succ]
          (refine wpAnyH_take (i := 5) (v := ?_) rfl (by kernel_rfl) (by kernel_rfl) (by kernel_rfl) (fun _ _ _ h => h) (Or.inl ⟨by rfl, ?_⟩) (by assumption) ?_; rotate_left 1; (focus (rintro w' ⟨k0, k1, k2, k3, k4, l0, l1, l2, l3, l4⟩; go_simp; (try with_reducible rfl); done)); try simp only [Act.put, List.setIfInBounds_toArray, List.set_cons_zero, List.set_cons_succ, List.getElem_toArray, List.getElem_cons_zero, List.getElem_cons_succ])
          (refine wpAnyH_take (i := 6) (v := ?_) rfl (by kernel_rfl) (by kernel_rfl) (by kernel_rfl) (fun _ _ _ h => h) (Or.inl ⟨by rfl, ?_⟩) (by assumption) ?_; rotate_left 1; (focus (rintro w' ⟨k0, k1, k2, k3, k4, l0, l1, l2, l3, l4⟩; go_simp; (try with_reducible rfl); done)); try simp only [Act.put, List.setIfInBounds_toArray, List.set_cons_zero, List.set_cons_succ, List.getElem_toArray, List.getElem_cons_zero, List.getElem_cons_succ])
          refine wpAnyH_ready (rs := [11, 14]) (by kernel_rfl) (by simp) ?_
          refine (AllReadyH.cons rfl (fun KK hK => ?_) (AllReadyH.cons rfl (fun KK hK => ?_) AllReadyH.nil))
          · go_simp
            go_at_call 11
            refine (mod_any b N (by omega) (by omega) b0 b1 _).mono ?_
            rintro e w' ⟨rfl, rfl⟩
            rw [HMB.out]
            go_wp2_with fail
            refine hK.out _ _ ⟨c0, c1, c2, c3, c4, d0, d1, d2, d3, d4⟩ (fun hHeld2 => ?_)
            clear hK KK hHeld
            have hHeld := hHeld2
            clear hHeld2
            try simp only [Act.put, List.setIfInBounds_toArray, List.set_cons_zero, List.set_cons_succ, List.getElem_toArray, List.getElem_cons_zero, List.getElem_cons_succ]
            (refine wpAnyH_take (i := 12) (v := ?_) rfl (by kernel_rfl) (by kernel_rfl) (by kernel_rfl) (fun _ _ _ h => h) (Or.inl ⟨by rfl, ?_⟩) (by assumption) ?_; rotate_left 1; (focus (rintro w' ⟨k0, k1, k2, k3, k4, l0, l1, l2, l3, l4⟩; go_simp; (try with_reducible rfl); done)); try simp only [Act.put, List.setIfInBounds_toArray, List.set_cons_zero, List.set_cons_succ, List.getElem_toArray, List.getElem_cons_zero, List.getElem_cons_succ])
            (refine wpAnyH_take (i := 13) (v := ?_) rfl (by kernel_rfl) (by kernel_rfl) (by kernel_rfl) (fun _ _ _ h => h) (Or.inl ⟨by rfl, ?_⟩) (by assumption) ?_; rotate_left 1; (focus (rintro w' ⟨k0, k1, k2, k3, k4, l0, l1, l2, l3, l4⟩; go_simp; (try with_reducible rfl); done)); try simp only [Act.put, List.setIfInBounds_toArray, List.set_cons_zero, List.set_cons_succ, List.getElem_toArray, List.getElem_cons_zero, List.getElem_cons_succ])
            refine wpAnyH_ready (rs := [14]) (by kernel_rfl) (by simp) ?_
            refine (AllReadyH.cons rfl (fun KK hK => ?_) AllReadyH.nil)
            · go_simp
              obtain ⟨X4, hX4⟩ : ∃ W', W' = World.alloc X1 (.cells #[.int .i64 0, .int .i64 0, .int .i64 0, .int .i64 0, .int .i64 0] 51) := ⟨_, rfl⟩
              rw [← hX4]
              have bX4 : Below X1.heap.size X1 X4 := by rw [hX4]; exact (Below.refl _ _).alloc (Nat.le_refl _) _
              have B14 : Blk X4 X1.heap.size 51 #[.int .i64 0, .int .i64 0, .int .i64 0, .int .i64 0, .int .i64 0] := by rw [hX4]; exact Blk.new _ _ _
              have B15 := B15.next bX4
              have zX4 := bX4.size
              have gz4 : g < X4.heap.size := Nat.lt_of_lt_of_le gz1 zX4
              have c0 := (bX4.cell (p := ⟨g, t * 5, none⟩) gz1).trans c0
              have c1 := (bX4.cell (p := ⟨g, t * 5 + 1, none⟩) gz1).trans c1
              have c2 := (bX4.cell (p := ⟨g, t * 5 + 2, none⟩) gz1).trans c2
              have c3 := (bX4.cell (p := ⟨g, t * 5 + 3, none⟩) gz1).trans c3
              have c4 := (bX4.cell (p := ⟨g, t * 5 + 4, none⟩) gz1).trans c4
              have d0 := (bX4.cell (p := ⟨g, u * 5, none⟩) gz1).trans d0
              have d1 := (bX4.cell (p := ⟨g, u * 5 + 1, none⟩) gz1).trans d1
              have d2 := (bX4.cell (p := ⟨g, u * 5 + 2, none⟩) gz1).trans d2
              have d3 := (bX4.cell (p := ⟨g, u * 5 + 3, none⟩) gz1).trans d3
              have d4 := (bX4.cell (p := ⟨g, u * 5 + 4, none⟩) gz1).trans d4
              have hc4 := below_next hc1 (Nat.le_refl _) bX4
              have zc14 : V.heap.size ≤ X1.heap.size := hc1.size
              have nn : V.heap.size ≠ X1.heap.size := by have := B150; omega
              clear hX4
              refine hK.out _ _ ⟨c0, c1, c2, c3, c4, d0, d1, d2, d3, d4⟩ (fun hHeld2 => ?_)
              clear hK KK hHeld
              have hHeld := hHeld2
              clear hHeld2
              try simp only [Act.put, List.setIfInBounds_toArray, List.set_cons_zero, List.set_cons_succ, List.getElem_toArray, List.getElem_cons_zero, List.getElem_cons_succ]
              have s0 := B14.cell 0
              have s1 := B14.cell 1
              have s2 := B14.cell 2
              have s3 := B14.cell 3
              have s4 := B14.cell 4
              have f0 := B14.frozen 0
              have f1 := B14.frozen 1
              have f2 := B14.frozen 2
              have f3 := B14.frozen 3
              have f4 := B14.frozen 4
              simp at s0 s1 s2 s3 s4
              refine wpAnyH_ready (rs := [16]) (by kernel_rfl) (by simp) ?_
              refine AllReadyH.cons rfl (fun KK hK => ?_) AllReadyH.nil
              go_simp
              obtain ⟨Z16, hZ16⟩ : ∃ W', W' = (((((X4.setCell ⟨X1.heap.size, 0, none⟩ (.int .i64 x0)).setCell ⟨X1.heap.size, 1, none⟩ (.int .i64 x1)).setCell ⟨X1.heap.size, 2, none⟩ (.int .i64 p)).setCell ⟨X1.heap.size, 3, none⟩ (.int .i64 x3)).setCell ⟨X1.heap.size, 4, none⟩ (.int .i64 x4)) := ⟨_, rfl⟩
              rw [← hZ16]
              have bZ16 : Below V.heap.size X4 Z16 := by rw [hZ16]; exact below_set5V (Below.refl _ _) zc14 _ _ _ _ _
              have B14 : Blk Z16 X1.heap.size 51 #[.int .i64 x0, .int .i64 x1, .int .i64 p, .int .i64 x3, .int .i64 x4] := by rw [hZ16]; exact B14.set5V _ _ _ _ _
              have B15 : Blk Z16 V.heap.size 51 #[.int .i64 0, .int .i64 0, .int .i64 0, .int .i64 0, .int .i64 0] := by rw [hZ16]; exact B15.turn5 (nn.symm.symm) _ _ _ _ _
              have hcz16 := hc4.trans bZ16
              clear hZ16 s0 s1 s2 s3 s4 f0 f1 f2 f3 f4
              have c0 := (bZ16.cell (p := ⟨g, t * 5, none⟩) hgz).trans c0
              have c1 := (bZ16.cell (p := ⟨g, t * 5 + 1, none⟩) hgz).trans c1
              have c2 := (bZ16.cell (p := ⟨g, t * 5 + 2, none⟩) hgz).trans c2
              have c3 := (bZ16.cell (p := ⟨g, t * 5 + 3, none⟩) hgz).trans c3
              have c4 := (bZ16.cell (p := ⟨g, t * 5 + 4, none⟩) hgz).trans c4
              have d0 := (bZ16.cell (p := ⟨g, u * 5, none⟩) hgz).trans d0
              have d1 := (bZ16.cell (p := ⟨g, u * 5 + 1, none⟩) hgz).trans d1
              have d2 := (bZ16.cell (p := ⟨g, u * 5 + 2, none⟩) hgz).trans d2
              have d3 := (bZ16.cell (p := ⟨g, u * 5 + 3, none⟩) hgz).trans d3
              have d4 := (bZ16.cell (p := ⟨g, u * 5 + 4, none⟩) hgz).trans d4
              refine hK.out _ _ ⟨c0, c1, c2, c3, c4, d0, d1, d2, d3, d4⟩ (fun hHeld2 => ?_)
              clear hK KK hHeld
              have hHeld := hHeld2
              clear hHeld2
              try simp only [Act.put, List.setIfInBounds_toArray, List.set_cons_zero, List.set_cons_succ, List.getElem_toArray, List.getElem_cons_zero, List.getElem_cons_succ]
              have s0 := B15.cell 0
              have s1 := B15.cell 1
              have s2 := B15.cell 2
              have s3 := B15.cell 3
              have s4 := B15.cell 4
              have f0 := B15.frozen 0
              have f1 := B15.frozen 1
              have f2 := B15.frozen 2
              have f3 := B15.frozen 3
              have f4 := B15.frozen 4
              simp at s0 s1 s2 s3 s4
              refine wpAnyH_ready (rs := [17]) (by kernel_rfl) (by simp) ?_
              refine AllReadyH.cons rfl (fun KK hK => ?_) AllReadyH.nil
              go_simp
              obtain ⟨Z17, hZ17⟩ : ∃ W', W' = (((((Z16.setCell ⟨V.heap.size, 0, none⟩ (.int .i64 y0)).setCell ⟨V.heap.size, 1, none⟩ (.int .i64 y1)).setCell ⟨V.heap.size, 2, none⟩ (.int .i64 p')).setCell ⟨V.heap.size, 3, none⟩ (.int .i64 y3)).setCell ⟨V.heap.size, 4, none⟩ (.int .i64 y4)) := ⟨_, rfl⟩
              rw [← hZ17]
              have bZ17 : Below V.heap.size Z16 Z17 := by rw [hZ17]; exact below_set5V (Below.refl _ _) zc15 _ _ _ _ _
              have B15 : Blk Z17 V.heap.size 51 #[.int .i64 y0, .int .i64 y1, .int .i64 p', .int .i64 y3, .int .i64 y4] := by rw [hZ17]; exact B15.set5V _ _ _ _ _
              have B14 : Blk Z17 X1.heap.size 51 #[.int .i64 x0, .int .i64 x1, .int .i64 p, .int .i64 x3, .int .i64 x4] := by rw [hZ17]; exact B14.turn5 (nn.symm) _ _ _ _ _
              have hcz17 := hcz16.trans bZ17
              clear hZ17 s0 s1 s2 s3 s4 f0 f1 f2 f3 f4
              have c0 := (bZ17.cell (p := ⟨g, t * 5, none⟩) hgz).trans c0
              have c1 := (bZ17.cell (p := ⟨g, t * 5 + 1, none⟩) hgz).trans c1
              have c2 := (bZ17.cell (p := ⟨g, t * 5 + 2, none⟩) hgz).trans c2
              have c3 := (bZ17.cell (p := ⟨g, t * 5 + 3, none⟩) hgz).trans c3
              have c4 := (bZ17.cell (p := ⟨g, t * 5 + 4, none⟩) hgz).trans c4
              have d0 := (bZ17.cell (p := ⟨g, u * 5, none⟩) hgz).trans d0
              have d1 := (bZ17.cell (p := ⟨g, u * 5 + 1, none⟩) hgz).trans d1
              have d2 := (bZ17.cell (p := ⟨g, u * 5 + 2, none⟩) hgz).trans d2
              have d3 := (bZ17.cell (p := ⟨g, u * 5 + 3, none⟩) hgz).trans d3
              have d4 := (bZ17.cell (p := ⟨g, u * 5 + 4, none⟩) hgz).trans d4
              refine hK.out _ _ ⟨c0, c1, c2, c3, c4, d0, d1, d2, d3, d4⟩ (fun hHeld2 => ?_)
              clear hK KK hHeld
              have hHeld := hHeld2
              clear hHeld2
              try simp only [Act.put, List.setIfInBounds_toArray, List.set_cons_zero, List.set_cons_succ, List.getElem_toArray, List.getElem_cons_zero, List.getElem_cons_succ]
              refine wpAnyH_done (by kernel_rfl) ?_ _
              clear hHeld
              go_wp2
              go_meet
              exact ⟨X1.heap.size, V.heap.size, rfl, rfl, zc14, zc15, nn.symm, hcz17, B14, B15⟩
          · go_simp
            obtain ⟨X3, hX3⟩ : ∃ W', W' = World.alloc X1 (.cells #[.int .i64 0, .int .i64 0, .int .i64 0, .int .i64 0, .int .i64 0] 51) := ⟨_, rfl⟩
            rw [← hX3]
            have bX3 : Below X1.heap.size X1 X3 := by rw [hX3]; exact (Below.refl _ _).alloc (Nat.le_refl _) _
            have B14 : Blk X3 X1.heap.size 51 #[.int .i64 0, .int .i64 0, .int .i64 0, .int .i64 0, .int .i64 0] := by rw [hX3]; exact Blk.new _ _ _
            have B15 := B15.next bX3
            have zX3 := bX3.size
            have gz3 : g < X3.heap.size := Nat.lt_of_lt_of_le gz1 zX3
            have c0 := (bX3.cell (p := ⟨g, t * 5, none⟩) gz1).trans c0
            have c1 := (bX3.cell (p := ⟨g, t * 5 + 1, none⟩) gz1).trans c1
            have c2 := (bX3.cell (p := ⟨g, t * 5 + 2, none⟩) gz1).trans c2
            have c3 := (bX3.cell (p := ⟨g, t * 5 + 3, none⟩) gz1).trans c3
            have c4 := (bX3.cell (p := ⟨g, t * 5 + 4, none⟩) gz1).trans c4
            have d0 := (bX3.cell (p := ⟨g, u * 5, none⟩) gz1).trans d0
            have d1 := (bX3.cell (p := ⟨g, u * 5 + 1, none⟩) gz1).trans d1
            have d2 := (bX3.cell (p := ⟨g, u * 5 + 2, none⟩) gz1).trans d2
            have d3 := (bX3.cell (p := ⟨g, u * 5 + 3, none⟩) gz1).trans d3
            have d4 := (bX3.cell (p := ⟨g, u * 5 + 4, none⟩) gz1).trans d4
            have hc3 := below_next hc1 (Nat.le_refl _) bX3
            have zc14 : V.heap.size ≤ X1.heap.size := hc1.size
            have nn : V.heap.size ≠ X1.heap.size := by have := B150; omega
            clear hX3
            refine hK.out _ _ ⟨c0, c1, c2, c3, c4, d0, d1, d2, d3, d4⟩ (fun hHeld2 => ?_)
            clear hK KK hHeld
            have hHeld := hHeld2
            clear hHeld2
            try simp only [Act.put, List.setIfInBounds_toArray, List.set_cons_zero, List.set_cons_succ, List.getElem_toArray, List.getElem_cons_zero, List.getElem_cons_succ]
            refine wpAnyH_ready (rs := [11]) (by kernel_rfl) (by simp) ?_
            refine (AllReadyH.cons rfl (fun KK hK => ?_) AllReadyH.nil)
            · go_simp
              go_at_call 11
              refine (mod_any b N (by omega) (by omega) b0 b1 _).mono ?_
              rintro e w' ⟨rfl, rfl⟩
              rw [HMB.out]
              go_wp2_with fail
              refine hK.out _ _ ⟨c0, c1, c2, c3, c4, d0, d1, d2, d3, d4⟩ (fun hHeld2 => ?_)
              clear hK KK hHeld
              have hHeld := hHeld2
              clear hHeld2
              try simp only [Act.put, List.setIfInBounds_toArray, List.set_cons_zero, List.set_cons_succ, List.getElem_toArray, List.getElem_cons_zero, List.getElem_cons_succ]
              (refine wpAnyH_take (i := 12) (v := ?_) rfl (by kernel_rfl) (by kernel_rfl) (by kernel_rfl) (fun _ _ _ h => h) (Or.inl ⟨by rfl, ?_⟩) (by assumption) ?_; rotate_left 1; (focus (rintro w' ⟨k0, k1, k2, k3, k4, l0, l1, l2, l3, l4⟩; go_simp; (try with_reducible rfl); done)); try simp only [Act.put, List.setIfInBounds_toArray, List.set_cons_zero, List.set_cons_succ, List.getElem_toArray, List.getElem_cons_zero, List.getElem_cons_succ])
              (refine wpAnyH_take (i := 13) (v := ?_) rfl (by kernel_rfl) (by kernel_rfl) (by kernel_rfl) (fun _ _ _ h => h) (Or.inl ⟨by rfl, ?_⟩) (by assumption) ?_; rotate_left 1; (focus (rintro w' ⟨k0, k1, k2, k3, k4, l0, l1, l2, l3, l4⟩; go_simp; (try with_reducible rfl); done)); try simp only [Act.put, List.setIfInBounds_toArray, List.set_cons_zero, List.set_cons_succ, List.getElem_toArray, List.getElem_cons_zero, List.getElem_cons_succ])
              have s0 := B14.cell 0
              have s1 := B14.cell 1
              have s2 := B14.cell 2
              have s3 := B14.cell 3
              have s4 := B14.cell 4
              have f0 := B14.frozen 0
              have f1 := B14.frozen 1
              have f2 := B14.frozen 2
              have f3 := B14.frozen 3
              have f4 := B14.frozen 4
              simp at s0 s1 s2 s3 s4
              refine wpAnyH_ready (rs := [16]) (by kernel_rfl) (by simp) ?_
              refine AllReadyH.cons rfl (fun KK hK => ?_) AllReadyH.nil
              go_simp
              obtain ⟨Z16, hZ16⟩ : ∃ W', W' = (((((X3.setCell ⟨X1.heap.size, 0, none⟩ (.int .i64 x0)).setCell ⟨X1.heap.size, 1, none⟩ (.int .i64 x1)).setCell ⟨X1.heap.size, 2, none⟩ (.int .i64 p)).setCell ⟨X1.heap.size, 3, none⟩ (.int .i64 x3)).setCell ⟨X1.heap.size, 4, none⟩ (.int .i64 x4)) := ⟨_, rfl⟩
              rw [← hZ16]
              have bZ16 : Below V.heap.size X3 Z16 := by rw [hZ16]; exact below_set5V (Below.refl _ _) zc14 _ _ _ _ _
              have B14 : Blk Z16 X1.heap.size 51 #[.int .i64 x0, .int .i64 x1, .int .i64 p, .int .i64 x3, .int .i64 x4] := by rw [hZ16]; exact B14.set5V _ _ _ _ _
              have B15 : Blk Z16 V.heap.size 51 #[.int .i64 0, .int .i64 0, .int .i64 0, .int .i64 0, .int .i64 0] := by rw [hZ16]; exact B15.turn5 (nn.symm.symm) _ _ _ _ _
              have hcz16 := hc3.trans bZ16
              clear hZ16 s0 s1 s2 s3 s4 f0 f1 f2 f3 f4
              have c0 := (bZ16.cell (p := ⟨g, t * 5, none⟩) hgz).trans c0
              have c1 := (bZ16.cell (p := ⟨g, t * 5 + 1, none⟩) hgz).trans c1
              have c2 := (bZ16.cell (p := ⟨g, t * 5 + 2, none⟩) hgz).trans c2
              have c3 := (bZ16.cell (p := ⟨g, t * 5 + 3, none⟩) hgz).trans c3
              have c4 := (bZ16.cell (p := ⟨g, t * 5 + 4, none⟩) hgz).trans c4
              have d0 := (bZ16.cell (p := ⟨g, u * 5, none⟩) hgz).trans d0
              have d1 := (bZ16.cell (p := ⟨g, u * 5 + 1, none⟩) hgz).trans d1
              have d2 := (bZ16.cell (p := ⟨g, u * 5 + 2, none⟩) hgz).trans d2
              have d3 := (bZ16.cell (p := ⟨g, u * 5 + 3, none⟩) hgz).trans d3
              have d4 := (bZ16.cell (p := ⟨g, u * 5 + 4, none⟩) hgz).trans d4
              refine hK.out _ _ ⟨c0, c1, c2, c3, c4, d0, d1, d2, d3, d4⟩ (fun hHeld2 => ?_)
              clear hK KK hHeld
              have hHeld := hHeld2
              clear hHeld2
              try simp only [Act.put, List.setIfInBounds_toArray, List.set_cons_zero, List.set_cons_succ, List.getElem_toArray, List.getElem_cons_zero, List.getElem_cons_succ]
              have s0 := B15.cell 0
              have s1 := B15.cell 1
              have s2 := B15.cell 2
              have s3 := B15.cell 3
              have s4 := B15.cell 4
              have f0 := B15.frozen 0
              have f1 := B15.frozen 1
              have f2 := B15.frozen 2
              have f3 := B15.frozen 3
              have f4 := B15.frozen 4
              simp at s0 s1 s2 s3 s4
              refine wpAnyH_ready (rs := [17]) (by kernel_rfl) (by simp) ?_
              refine AllReadyH.cons rfl (fun KK hK => ?_) AllReadyH.nil
              go_simp
              obtain ⟨Z17, hZ17⟩ : ∃ W', W' = (((((Z16.setCell ⟨V.heap.size, 0, none⟩ (.int .i64 y0)).setCell ⟨V.heap.size, 1, none⟩ (.int .i64 y1)).setCell ⟨V.heap.size, 2, none⟩ (.int .i64 p')).setCell ⟨V.heap.size, 3, none⟩ (.int .i64 y3)).setCell ⟨V.heap.size, 4, none⟩ (.int .i64 y4)) := ⟨_, rfl⟩
              rw [← hZ17]
              have bZ17 : Below V.heap.size Z16 Z17 := by rw [hZ17]; exact below_set5V (Below.refl _ _) zc15 _ _ _ _ _
              have B15 : Blk Z17 V.heap.size 51 #[.int .i64 y0, .int .i64 y1, .int .i64 p', .int .i64 y3, .int .i64 y4] := by rw [hZ17]; exact B15.set5V _ _ _ _ _
              have B14 : Blk Z17 X1.heap.size 51 #[.int .i64 x0, .int .i64 x1, .int .i64 p, .int .i64 x3, .int .i64 x4] := by rw [hZ17]; exact B14.turn5 (nn.symm) _ _ _ _ _
              have hcz17 := hcz16.trans bZ17
              clear hZ17 s0 s1 s2 s3 s4 f0 f1 f2 f3 f4
              have c0 := (bZ17.cell (p := ⟨g, t * 5, none⟩) hgz).trans c0
              have c1 := (bZ17.cell (p := ⟨g, t * 5 + 1, none⟩) hgz).trans c1
              have c2 := (bZ17.cell (p := ⟨g, t * 5 + 2, none⟩) hgz).trans c2
              have c3 := (bZ17.cell (p := ⟨g, t * 5 + 3, none⟩) hgz).trans c3
              have c4 := (bZ17.cell (p := ⟨g, t * 5 + 4, none⟩) hgz).trans c4
              have d0 := (bZ17.cell (p := ⟨g, u * 5, none⟩) hgz).trans d0
              have d1 := (bZ17.cell (p := ⟨g, u * 5 + 1, none⟩) hgz).trans d1
              have d2 := (bZ17.cell (p := ⟨g, u * 5 + 2, none⟩) hgz).trans d2
              have d3 := (bZ17.cell (p := ⟨g, u * 5 + 3, none⟩) hgz).trans d3
              have d4 := (bZ17.cell (p := ⟨g, u * 5 + 4, none⟩) hgz).trans d4
              refine hK.out _ _ ⟨c0, c1, c2, c3, c4, d0, d1, d2, d3, d4⟩ (fun hHeld2 => ?_)
              clear hK KK hHeld
              have hHeld := hHeld2
              clear hHeld2
              try simp only [Act.put, List.setIfInBounds_toArray, List.set_cons_zero, List.set_cons_succ, List.getElem_toArray, List.getElem_cons_zero, List.getElem_cons_succ]
              refine wpAnyH_done (by kernel_rfl) ?_ _
              clear hHeld
              go_wp2
              go_meet
              exact ⟨X1.heap.size, V.heap.size, rfl, rfl, zc14, zc15, nn.symm, hcz17, B14, B15⟩
        · go_simp
          obtain ⟨X2, hX2⟩ : ∃ W', W' = World.alloc X1 (.cells #[.int .i64 0, .int .i64 0, .int .i64 0, .int .i64 0, .int .i64 0] 51) := ⟨_, rfl⟩
          rw [← hX2]
          have bX2 : Below X1.heap.size X1 X2 := by rw [hX2]; exact (Below.refl _ _).alloc (Nat.le_refl _) _
          have B14 : Blk X2 X1.heap.size 51 #[.int .i64 0, .int .i64 0, .int .i64 0, .int .i64 0, .int .i64 0] := by rw [hX2]; exact Blk.new _ _ _
          have B15 := B15.next bX2
          have zX2 := bX2.size
          have gz2 : g < X2.heap.size := Nat.lt_of_lt_of_le gz1 zX2
          have c0 := (bX2.cell (p := ⟨g, t * 5, none⟩) gz1).trans c0
          have c1 := (bX2.cell (p := ⟨g, t * 5 + 1, none⟩) gz1).trans c1
          have c2 := (bX2.cell (p := ⟨g, t * 5 + 2, none⟩) gz1).trans c2
          have c3 := (bX2.cell (p := ⟨g, t * 5 + 3, none⟩) gz1).trans c3
          have c4 := (bX2.cell (p := ⟨g, t * 5 + 4, none⟩) gz1).trans c4
          have d0 := (bX2.cell (p := ⟨g, u * 5, none⟩) gz1).trans d0
          have d1 := (bX2.cell (p := ⟨g, u * 5 + 1, none⟩) gz1).trans d1
          have d2 := (bX2.cell (p := ⟨g, u * 5 + 2, none⟩) gz1).trans d2
          have d3 := (bX2.cell (p := ⟨g, u * 5 + 3, none⟩) gz1).trans d3
          have d4 := (bX2.cell (p := ⟨g, u * 5 + 4, none⟩) gz1).trans d4
          have hc2 := below_next hc1 (Nat.le_refl _) bX2
          have zc14 : V.heap.size ≤ X1.heap.size := hc1.size
          have nn : V.heap.size ≠ X1.heap.size := by have := B150; omega
          clear hX2
          refine hK.out _ _ ⟨c0, c1, c2, c3, c4, d0, d1, d2, d3, d4⟩ (fun hHeld2 => ?_)
          clear hK KK hHeld
          have hHeld := hHeld2
          clear hHeld2
          try simp only [Act.put, List.setIfInBounds_toArray, List.set_cons_zero, List.set_cons_succ, List.getElem_toArray, List.getElem_cons_zero, List.getElem_cons_succ]
          refine wpAnyH_ready (rs := [4]) (by kernel_rfl) (by simp) ?_
          refine (AllReadyH.cons rfl (fun KK hK => ?_) AllReadyH.nil)
          · go_simp
            go_at_call 11
            refine (mod_any a N (by omega) (by omega) a0 a1 _).mono ?_
            rintro e w' ⟨rfl, rfl⟩
            rw [HMA.out]
            go_wp2_with fail
            refine hK.out _ _ ⟨c0, c1, c2, c3, c4, d0, d1, d2, d3, d4⟩ (fun hHeld2 => ?_)
            clear hK KK hHeld
            have hHeld := hHeld2
            clear hHeld2
            try simp only [Act.put, List.setIfInBounds_toArray, List.set_cons_zero, List.set_cons_succ, List.getElem_toArray, List.getElem_cons_zero, List.getElem_cons_succ]
            (refine wpAnyH_take (i := 5) (v := ?_) rfl (by kernel_rfl) (by kernel_rfl) (by kernel_rfl) (fun _ _ _ h => h) (Or.inl ⟨by rfl, ?_⟩) (by assumption) ?_; rotate_left 1; (focus (rintro w' ⟨k0, k1, k2, k3, k4, l0, l1, l2, l3, l4⟩; go_simp; (try with_reducible rfl); done)); try simp only [Act.put, List.setIfInBounds_toArray, List.set_cons_zero, List.set_cons_succ, List.getElem_toArray, List.getElem_cons_zero, List.getElem_cons_succ])
            (refine wpAnyH_take (i := 6) (v := ?_) rfl (by kernel_rfl) (by kernel_rfl) (by kernel_rfl) (fun _ _ _ h => h) (Or.inl ⟨by rfl, ?_⟩) (by assumption) ?_; rotate_left 1; (focus (rintro w' ⟨k0, k1, k2, k3, k4, l0, l1, l2, l3, l4⟩; go_simp; (try with_reducible rfl); done)); try simp only [Act.put, List.setIfInBounds_toArray, List.set_cons_zero, List.set_cons_succ, List.getElem_toArray, List.getElem_cons_zero, List.getElem_cons_succ])
            refine wpAnyH_ready (rs := [11]) (by kernel_rfl) (by simp) ?_
            refine (AllReadyH.cons rfl (fun KK hK => ?_) AllReadyH.nil)
            · go_simp
              go_at_call 11
              refine (mod_any b N (by omega) (by omega) b0 b1 _).mono ?_
              rintro e w' ⟨rfl, rfl⟩
              rw [HMB.out]
              go_wp2_with fail
              refine hK.out _ _ ⟨c0, c1, c2, c3, c4, d0, d1, d2, d3, d4⟩ (fun hHeld2 => ?_)
              clear hK KK hHeld
              have hHeld := hHeld2
              clear hHeld2
              try simp only [Act.put, List.setIfInBounds_toArray, List.set_cons_zero, List.set_cons_succ, List.getElem_toArray, List.getElem_cons_zero, List.getElem_cons_succ]
              (refine wpAnyH_take (i := 12) (v := ?_) rfl (by kernel_rfl) (by kernel_rfl) (by kernel_rfl) (fun _ _ _ h => h) (Or.inl ⟨by rfl, ?_⟩) (by assumption) ?_; rotate_left 1; (focus (rintro w' ⟨k0, k1, k2, k3, k4, l0, l1, l2, l3, l4⟩; go_simp; (try with_reducible rfl); done)); try simp only [Act.put, List.setIfInBounds_toArray, List.set_cons_zero, List.set_cons_succ, List.getElem_toArray, List.getElem_cons_zero, List.getElem_cons_succ])
              (refine wpAnyH_take (i := 13) (v := ?_) rfl (by kernel_rfl) (by kernel_rfl) (by kernel_rfl) (fun _ _ _ h => h) (Or.inl ⟨by rfl, ?_⟩) (by assumption) ?_; rotate_left 1; (focus (rintro w' ⟨k0, k1, k2, k3, k4, l0, l1, l2, l3, l4⟩; go_simp; (try with_reducible rfl); done)); try simp only [Act.put, List.setIfInBounds_toArray, List.set_cons_zero, List.set_cons_succ, List.getElem_toArray, List.getElem_cons_zero, List.getElem_cons_succ])
              have s0 := B14.cell 0
              have s1 := B14.cell 1
              have s2 := B14.cell 2
              have s3 := B14.cell 3
              have s4 := B14.cell 4
              have f0 := B14.frozen 0
              have f1 := B14.frozen 1
              have f2 := B14.frozen 2
              have f3 := B14.frozen 3
              have f4 := B14.frozen 4
              simp at s0 s1 s2 s3 s4
              refine wpAnyH_ready (rs := [16]) (by kernel_rfl) (by simp) ?_
              refine AllReadyH.cons rfl (fun KK hK => ?_) AllReadyH.nil
              go_simp
              obtain ⟨Z16, hZ16⟩ : ∃ W', W' = (((((X2.setCell ⟨X1.heap.size, 0, none⟩ (.int .i64 x0)).setCell ⟨X1.heap.size, 1, none⟩ (.int .i64 x1)).setCell ⟨X1.heap.size, 2, none⟩ (.int .i64 p)).setCell ⟨X1.heap.size, 3, none⟩ (.int .i64 x3)).setCell ⟨X1.heap.size, 4, none⟩ (.int .i64 x4)) := ⟨_, rfl⟩
              rw [← hZ16]
              have bZ16 : Below V.heap.size X2 Z16 := by rw [hZ16]; exact below_set5V (Below.refl _ _) zc14 _ _ _ _ _
              have B14 : Blk Z16 X1.heap.size 51 #[.int .i64 x0, .int .i64 x1, .int .i64 p, .int .i64 x3, .int .i64 x4] := by rw [hZ16]; exact B14.set5V _ _ _ _ _
              have B15 : Blk Z16 V.heap.size 51 #[.int .i64 0, .int .i64 0, .int .i64 0, .int .i64 0, .int .i64 0] := by rw [hZ16]; exact B15.turn5 (nn.symm.symm) _ _ _ _ _
              have hcz16 := hc2.trans bZ16
              clear hZ16 s0 s1 s2 s3 s4 f0 f1 f2 f3 f4
              have c0 := (bZ16.cell (p := ⟨g, t * 5, none⟩) hgz).trans c0
              have c1 := (bZ16.cell (p := ⟨g, t * 5 + 1, none⟩) hgz).trans c1
              have c2 := (bZ16.cell (p := ⟨g, t * 5 + 2, none⟩) hgz).trans c2
              have c3 := (bZ16.cell (p := ⟨g, t * 5 + 3, none⟩) hgz).trans c3
              have c4 := (bZ16.cell (p := ⟨g, t * 5 + 4, none⟩) hgz).trans c4
              have d0 := (bZ16.cell (p := ⟨g, u * 5, none⟩) hgz).trans d0
              have d1 := (bZ16.cell (p := ⟨g, u * 5 + 1, none⟩) hgz).trans d1
              have d2 := (bZ16.cell (p := ⟨g, u * 5 + 2, none⟩) hgz).trans d2
              have d3 := (bZ16.cell (p := ⟨g, u * 5 + 3, none⟩) hgz).trans d3
              have d4 := (bZ16.cell (p := ⟨g, u * 5 + 4, none⟩) hgz).trans d4
              refine hK.out _ _ ⟨c0, c1, c2, c3, c4, d0, d1, d2, d3, d4⟩ (fun hHeld2 => ?_)
              clear hK KK hHeld
              have hHeld := hHeld2
              clear hHeld2
              try simp only [Act.put, List.setIfInBounds_toArray, List.set_cons_zero, List.set_cons_succ, List.getElem_toArray, List.getElem_cons_zero, List.getElem_cons_succ]
              have s0 := B15.cell 0
              have s1 := B15.cell 1
              have s2 := B15.cell 2
              have s3 := B15.cell 3
              have s4 := B15.cell 4
              have f0 := B15.frozen 0
              have f1 := B15.frozen 1
              have f2 := B15.frozen 2
              have f3 := B15.frozen 3
              have f4 := B15.frozen 4
              simp at s0 s1 s2 s3 s4
              refine wpAnyH_ready (rs := [17]) (by kernel_rfl) (by simp) ?_
              refine AllReadyH.cons rfl (fun KK hK => ?_) AllReadyH.nil
              go_simp
              obtain ⟨Z17, hZ17⟩ : ∃ W', W' = (((((Z16.setCell ⟨V.heap.size, 0, none⟩ (.int .i64 y0)).setCell ⟨V.heap.size, 1, none⟩ (.int .i64 y1)).setCell ⟨V.heap.size, 2, none⟩ (.int .i64 p')).setCell ⟨V.heap.size, 3, none⟩ (.int .i64 y3)).setCell ⟨V.heap.size, 4, none⟩ (.int .i64 y4)) := ⟨_, rfl⟩
              rw [← hZ17]
              have bZ17 : Below V.heap.size Z16 Z17 := by rw [hZ17]; exact below_set5V (Below.refl _ _) zc15 _ _ _ _ _
              have B15 : Blk Z17 V.heap.size 51 #[.int .i64 y0, .int .i64 y1, .int .i64 p', .int .i64 y3, .int .i64 y4] := by rw [hZ17]; exact B15.set5V _ _ _ _ _
              have B14 : Blk Z17 X1.heap.size 51 #[.int .i64 x0, .int .i64 x1, .int .i64 p, .int .i64 x3, .int .i64 x4] := by rw [hZ17]; exact B14.turn5 (nn.symm) _ _ _ _ _
              have hcz17 := hcz16.trans bZ17
              clear hZ17 s0 s1 s2 s3 s4 f0 f1 f2 f3 f4
              have c0 := (bZ17.cell (p := ⟨g, t * 5, none⟩) hgz).trans c0
              have c1 := (bZ17.cell (p := ⟨g, t * 5 + 1, none⟩) hgz).trans c1
              have c2 := (bZ17.cell (p := ⟨g, t * 5 + 2, none⟩) hgz).trans c2
              have c3 := (bZ17.cell (p := ⟨g, t * 5 + 3, none⟩) hgz).trans c3
              have c4 := (bZ17.cell (p := ⟨g, t * 5 + 4, none⟩) hgz).trans c4
              have d0 := (bZ17.cell (p := ⟨g, u * 5, none⟩) hgz).trans d0
              have d1 := (bZ17.cell (p := ⟨g, u * 5 + 1, none⟩) hgz).trans d1
              have d2 := (bZ17.cell (p := ⟨g, u * 5 + 2, none⟩) hgz).trans d2
              have d3 := (bZ17.cell (p := ⟨g, u * 5 + 3, none⟩) hgz).trans d3
              have d4 := (bZ17.cell (p := ⟨g, u * 5 + 4, none⟩) hgz).trans d4
              refine hK.out _ _ ⟨c0, c1, c2, c3, c4, d0, d1, d2, d3, d4⟩ (fun hHeld2 => ?_)
              clear hK KK hHeld
              have hHeld := hHeld2
              clear hHeld2
              try simp only [Act.put, List.setIfInBounds_toArray, List.set_cons_zero, List.set_cons_succ, List.getElem_toArray, List.getElem_cons_zero, List.getElem_cons_succ]
              refine wpAnyH_done (by kernel_rfl) ?_ _
              clear hHeld
              go_wp2
              go_meet
              exact ⟨X1.heap.size, V.heap.size, rfl, rfl, zc14, zc15, nn.symm, hcz17, B14, B15⟩
    case rest =>
      obtain ⟨bx, bv, rfl, rfl, zx, zv, hxv, hb, hX, hY⟩ := hcut
      have hgz2 : U3.heap.size < V.heap.size := qz
      have BX1 := Lib.hid hX
      have BV1 := Lib.hid hY
      have BS1 := Lib.hid (BY.out.next hb)
      have HB1 := Lib.hid (below_next HBV.out (Nat.le_refl _) hb)
      have HA1 := Lib.hid (HA.out.next hb)
      have HT1 := Lib.hid (HT.out.next hb)
      clear c0 c1 c2 c3 c4 d0 d1 d2 d3 d4 q0 q1 q2 qz hb hX hY
      have q0 := BS1.out.cell 0
      have q1 := BS1.out.cell 1
      have q2 := BS1.out.cell 2
      have qz := BS1.out.lt
      clear hpb hpb'
      have q0 := BS1.out.cell 0
      have q1 := BS1.out.cell 1
      have q2 := BS1.out.cell 2
      have qz := BS1.out.lt
      have m2 := BX1.out.cell 2
      have m4 := BX1.out.cell 4
      have mz := BX1.out.lt
      simp at q0 q1 q2 m2 m4
      go_upto_region 5 with fail
      refine wp_region_held_drew (S := (fun w' => w'.cell? ⟨U3.heap.size, 0, none⟩ = some (.int .i64 K) ∧ w'.cell? ⟨U3.heap.size, 1, none⟩ = some (.slice B mk d) ∧ w'.cell? ⟨U3.heap.size, 2, none⟩ = some (.slice (some ⟨gb, 0, none⟩) m d') ∧ w'.cell? ⟨bx, 2, none⟩ = some (.int .i64 p) ∧ w'.cell? ⟨bx, 4, none⟩ = some (.int .i64 x4))) (by kernel_rfl) ?_ (fun hHeld => ?_)
      · exact ⟨q0, q1, q2, m2, m4⟩
      (refine wpAnyH_take (i := 0) (v := ?_) rfl (by kernel_rfl) (by kernel_rfl) (by kernel_rfl) (fun _ _ _ h => h) (Or.inl ⟨by rfl, ?_⟩) (by assumption) ?_; rotate_left 1; (focus (rintro w' ⟨k0, k1, k2, k3, k4⟩; go_simp; (try with_reducible rfl); done)); try simp only [Act.put, List.setIfInBounds_toArray, List.set_cons_zero, List.set_cons_succ, List.getElem_toArray, List.getElem_cons_zero])
      (refine wpAnyH_take (i := 1) (v := ?_) rfl (by kernel_rfl) (by kernel_rfl) (by kernel_rfl) (fun _ _ _ h => h) (Or.inl ⟨by rfl, ?_⟩) (by assumption) ?_; rotate_left 1; (focus (rintro w' ⟨k0, k1, k2, k3, k4⟩; go_simp; (try with_reducible rfl); done)); try simp only [Act.put, List.setIfInBounds_toArray, List.set_cons_zero, List.set_cons_succ, List.getElem_toArray, List.getElem_cons_zero, List.getElem_cons_succ])
      (refine wpAnyH_take (i := 2) (v := ?_) rfl (by kernel_rfl) (by kernel_rfl) (by kernel_rfl) (fun _ _ _ h => h) (Or.inl ⟨by rfl, ?_⟩) (by assumption) ?_; rotate_left 1; (focus (rintro w' ⟨k0, k1, k2, k3, k4⟩; go_simp; (try with_reducible rfl); done)); try simp only [Act.put, List.setIfInBounds_toArray, List.set_cons_zero, List.set_cons_succ, List.getElem_toArray, List.getElem_cons_zero, List.getElem_cons_succ])
      (refine wpAnyH_take (i := 3) (v := ?_) rfl (by kernel_rfl) (by kernel_rfl) (by kernel_rfl) (fun _ _ _ h => h) (Or.inl ⟨by rfl, ?_⟩) (by assumption) ?_; rotate_left 1; (focus (rintro w' ⟨k0, k1, k2, k3, k4⟩; go_simp; (try with_reducible rfl); done)); try simp only [Act.put, List.setIfInBounds_toArray, List.set_cons_zero, List.set_cons_succ, List.getElem_toArray, List.getElem_cons_zero, List.getElem_cons_succ])
      (refine wpAnyH_take (i := 4) (v := ?_) rfl (by kernel_rfl) (by kernel_rfl) (by kernel_rfl) (fun _ _ _ h => h) (Or.inl ⟨by rfl, ?_⟩) (by assumption) ?_; rotate_left 1; (focus (rintro w' ⟨k0, k1, k2, k3, k4⟩; go_simp; (try with_reducible rfl); done)); try simp only [Act.put, List.setIfInBounds_toArray, List.set_cons_zero, List.set_cons_succ, List.getElem_toArray, List.getElem_cons_zero, List.getElem_cons_succ])
      (refine wpAnyH_take (i := 5) (v := ?_) rfl (by kernel_rfl) (by kernel_rfl) (by kernel_rfl) (fun _ _ _ h => h) (Or.inl ⟨by rfl, ?_⟩) (by assumption) ?_; rotate_left 1; (focus (rintro w' ⟨k0, k1, k2, k3, k4⟩; go_simp; (try with_reducible rfl); done)); try simp only [Act.put, List.setIfInBounds_toArray, List.set_cons_zero, List.set_cons_succ, List.getElem_toArray, List.getElem_cons_zero, List.getElem_cons_succ])
      (refine wpAnyH_take (i := 6) (v := ?_) rfl (by kernel_rfl) (by kernel_rfl) (by kernel_rfl) (fun _ _ _ h => h) (Or.inl ⟨by rfl, ?_⟩) (by assumption) ?_; rotate_left 1; (focus (rintro w' ⟨k0, k1, k2, k3, k4⟩; go_simp; (try with_reducible rfl); done)); try simp only [Act.put, List.setIfInBounds_toArray, List.set_cons_zero, List.set_cons_succ, List.getElem_toArray, List.getElem_cons_zero, List.getElem_cons_succ])
      (refine wpAnyH_take (i := 7) (v := ?_) rfl (by kernel_rfl) (by kernel_rfl) (by kernel_rfl) (fun _ _ _ h => h) (Or.inl ⟨by rfl, ?_⟩) (by assumption) ?_; rotate_left 1; (focus (rintro w' ⟨k0, k1, k2, k3, k4⟩; go_simp; (try with_reducible rfl); done)); try simp only [Act.put, List.setIfInBounds_toArray, List.set_cons_zero, List.set_cons_succ, List.getElem_toArray, List.getElem_cons_zero, List.getElem_cons_succ])
      (refine wpAnyH_take (i := 8) (v := ?_) rfl (by kernel_rfl) (by kernel_rfl) (by kernel_rfl) (fun _ _ _ h => h) (Or.inl ⟨by rfl, ?_⟩) (by assumption) ?_; rotate_left 1; (focus (rintro w' ⟨k0, k1, k2, k3, k4⟩; go_simp; (try with_reducible rfl); done)); try simp only [Act.put, List.setIfInBounds_toArray, List.set_cons_zero, List.set_cons_succ, List.getElem_toArray, List.getElem_cons_zero, List.getElem_cons_succ])
      (refine wpAnyH_take (i := 9) (v := ?_) rfl (by kernel_rfl) (by kernel_rfl) (by kernel_rfl) (fun _ _ _ h => h) (Or.inl ⟨by rfl, ?_⟩) (by assumption) ?_; rotate_left 1; (focus (rintro w' ⟨k0, k1, k2, k3, k4⟩; go_simp; (try with_reducible rfl); done)); try simp only [Act.put, List.setIfInBounds_toArray, List.set_cons_zero, List.set_cons_succ, List.getElem_toArray, List.getElem_cons_zero, List.getElem_cons_succ])
      refine wpAnyH_ready (rs := [10]) (by kernel_rfl) (by simp) ?_
      refine AllReadyH.cons rfl (fun KK hK => ?_) AllReadyH.nil
      go_simp
      go_at_call 11
      refine (mod_any i x4 (by omega) (by omega) i0 i1 _).mono ?_
      rintro e w' ⟨rfl, rfl⟩
      rw [HJ.out]
      go_wp2_with fail
      refine hK.out _ _ ⟨q0, q1, q2, m2, m4⟩ (fun hHeld2 => ?_)
      clear hK KK hHeld
      have hHeld := hHeld2
      clear hHeld2
      try simp only [Act.put, List.setIfInBounds_toArray, List.set_cons_zero, List.set_cons_succ, List.getElem_toArray, List.getElem_cons_zero, List.getElem_cons_succ]
      refine wpAnyH_ready (rs := [11]) (by kernel_rfl) (by simp) ?_
      refine AllReadyH.cons rfl (fun KK hK => ?_) AllReadyH.nil
      go_simp
      rw [HSH.out, HWP.out]
      go_at_call 18
      refine (refGo5_any K B (some ⟨gb, 0, none⟩) mk d m d' wd F ((p : Int) * 2 ^ K) J wc.drew (HT1.out.next (Below.refl _ wc).drew) HVP.out (by omega) (by omega)).mono ?_
      rintro e w5 ⟨rfl, hb5⟩
      rw [HE1.out, HE2.out]
      go_wp2_with fail
      refine hK.out _ _ ⟨(hb5.cell (p := ⟨U3.heap.size, 0, none⟩) qz).trans q0, (hb5.cell (p := ⟨U3.heap.size, 1, none⟩) qz).trans q1, (hb5.cell (p := ⟨U3.heap.size, 2, none⟩) qz).trans q2, (hb5.cell (p := ⟨bx, 2, none⟩) mz).trans m2, (hb5.cell (p := ⟨bx, 4, none⟩) mz).trans m4⟩ (fun hHeld2 => ?_)
      clear hK KK hHeld
      have hHeld := hHeld2
      clear hHeld2
      try simp only [Act.put, List.setIfInBounds_toArray, List.set_cons_zero, List.set_cons_succ, List.getElem_toArray, List.getElem_cons_zero, List.getElem_cons_succ]
      (refine wpAnyH_take (i := 12) (v := ?_) rfl (by kernel_rfl) (by kernel_rfl) (by kernel_rfl) (fun _ _ _ h => h) (Or.inl ⟨by rfl, ?_⟩) (by assumption) ?_; rotate_left 1; (focus (rintro w' ⟨k0, k1, k2, k3, k4⟩; go_simp; (try with_reducible rfl); done)); try simp only [Act.put, List.setIfInBounds_toArray, List.set_cons_zero, List.set_cons_succ, List.getElem_toArray, List.getElem_cons_zero, List.getElem_cons_succ])
      (refine wpAnyH_take (i := 13) (v := ?_) rfl (by kernel_rfl) (by kernel_rfl) (by kernel_rfl) (fun _ _ _ h => h) (Or.inl ⟨by rfl, ?_⟩) (by assumption) ?_; rotate_left 1; (focus (rintro w' ⟨k0, k1, k2, k3, k4⟩; go_simp; (try with_reducible rfl); done)); try simp only [Act.put, List.setIfInBounds_toArray, List.set_cons_zero, List.set_cons_succ, List.getElem_toArray, List.getElem_cons_zero, List.getElem_cons_succ])
      (refine wpAnyH_take (i := 14) (v := ?_) rfl (by kernel_rfl) (by kernel_rfl) (by kernel_rfl) (fun _ _ _ h => h) (Or.inl ⟨by rfl, ?_⟩) (by assumption) ?_; rotate_left 1; (focus (rintro w' ⟨k0, k1, k2, k3, k4⟩; go_simp; (try with_reducible rfl); done)); try simp only [Act.put, List.setIfInBounds_toArray, List.set_cons_zero, List.set_cons_succ, List.getElem_toArray, List.getElem_cons_zero, List.getElem_cons_succ])
      (refine wpAnyH_take (i := 15) (v := ?_) rfl (by kernel_rfl) (by kernel_rfl) (by kernel_rfl) (fun _ _ _ h => h) (Or.inl ⟨by rfl, ?_⟩) (by assumption) ?_; rotate_left 1; (focus (rintro w' ⟨k0, k1, k2, k3, k4⟩; go_simp; (try with_reducible rfl); done)); try simp only [Act.put, List.setIfInBounds_toArray, List.set_cons_zero, List.set_cons_succ, List.getElem_toArray, List.getElem_cons_zero, List.getElem_cons_succ])
      (refine wpAnyH_take (i := 16) (v := ?_) rfl (by kernel_rfl) (by kernel_rfl) (by kernel_rfl) (fun _ _ _ h => h) (Or.inl ⟨by rfl, ?_⟩) (by assumption) ?_; rotate_left 1; (focus (rintro w' ⟨k0, k1, k2, k3, k4⟩; go_simp; (try with_reducible rfl); done)); try simp only [Act.put, List.setIfInBounds_toArray, List.set_cons_zero, List.set_cons_succ, List.getElem_toArray, List.getElem_cons_zero, List.getElem_cons_succ])
      refine wpAnyH_done (by kernel_rfl) ?_ _
      clear hHeld
      obtain ⟨W5, rfl⟩ : ∃ W, W = w5 := ⟨_, rfl⟩
      have hb := (Below.refl _ wc).drew.trans hb5
      have BX2 := Lib.hid (BX1.out.next hb)
      have BV2 := Lib.hid (BV1.out.next hb)
      have BS2 := Lib.hid (BS1.out.next hb)
      have HB2 := Lib.hid (below_next HB1.out (Nat.le_refl _) hb)
      have HA2 := Lib.hid (HA1.out.next hb)
      have HT2 := Lib.hid (HT1.out.next hb)
      clear hb hb5 q0 q1 q2 qz m2 m4 mz BX1 BV1 BS1 HB1 HA1 HT1
      have q0 := BS2.out.cell 0
      have q1 := BS2.out.cell 1
      have q2 := BS2.out.cell 2
      have qz := BS2.out.lt
      have m2 := BV2.out.cell 2
      have m4 := BV2.out.cell 4
      have mz := BV2.out.lt
      simp at q0 q1 q2 m2 m4
      go_upto_region 6 with fail
      refine wp_region_held_drew (S := (fun w' => w'.cell? ⟨U3.heap.size, 0, none⟩ = some (.int .i64 K) ∧ w'.cell? ⟨U3.heap.size, 1, none⟩ = some (.slice B mk d) ∧ w'.cell? ⟨U3.heap.size, 2, none⟩ = some (.slice (some ⟨gb, 0, none⟩) m d') ∧ w'.cell? ⟨bv, 2, none⟩ = some (.int .i64 p') ∧ w'.cell? ⟨bv, 4, none⟩ = some (.int .i64 y4))) (by kernel_rfl) ?_ (fun hHeld => ?_)
      · exact ⟨q0, q1, q2, m2, m4⟩
      (refine wpAnyH_take (i := 0) (v := ?_) rfl (by kernel_rfl) (by kernel_rfl) (by kernel_rfl) (fun _ _ _ h => h) (Or.inl ⟨by rfl, ?_⟩) (by assumption) ?_; rotate_left 1; (focus (rintro w' ⟨k0, k1, k2, k3, k4⟩; go_simp; (try with_reducible rfl); done)); try simp only [Act.put, List.setIfInBounds_toArray, List.set_cons_zero, List.set_cons_succ, List.getElem_toArray, List.getElem_cons_zero])
      (refine wpAnyH_take (i := 1) (v := ?_) rfl (by kernel_rfl) (by kernel_rfl) (by kernel_rfl) (fun _ _ _ h => h) (Or.inl ⟨by rfl, ?_⟩) (by assumption) ?_; rotate_left 1; (focus (rintro w' ⟨k0, k1, k2, k3, k4⟩; go_simp; (try with_reducible rfl); done)); try simp only [Act.put, List.setIfInBounds_toArray, List.set_cons_zero, List.set_cons_succ, List.getElem_toArray, List.getElem_cons_zero, List.getElem_cons_succ])
      (refine wpAnyH_take (i := 2) (v := ?_) rfl (by kernel_rfl) (by kernel_rfl) (by kernel_rfl) (fun _ _ _ h => h) (Or.inl ⟨by rfl, ?_⟩) (by assumption) ?_; rotate_left 1; (focus (rintro w' ⟨k0, k1, k2, k3, k4⟩; go_simp; (try with_reducible rfl); done)); try simp only [Act.put, List.setIfInBounds_toArray, List.set_cons_zero, List.set_cons_succ, List.getElem_toArray, List.getElem_cons_zero, List.getElem_cons_succ])
      (refine wpAnyH_take (i := 3) (v := ?_) rfl (by kernel_rfl) (by kernel_rfl) (by kernel_rfl) (fun _ _ _ h => h) (Or.inl ⟨by rfl, ?_⟩) (by assumption) ?_; rotate_left 1; (focus (rintro w' ⟨k0, k1, k2, k3, k4⟩; go_simp; (try with_reducible rfl); done)); try simp only [Act.put, List.setIfInBounds_toArray, List.set_cons_zero, List.set_cons_succ, List.getElem_toArray, List.getElem_cons_zero, List.getElem_cons_succ])
      (refine wpAnyH_take (i := 4) (v := ?_) rfl (by kernel_rfl) (by kernel_rfl) (by kernel_rfl) (fun _ _ _ h => h) (Or.inl ⟨by rfl, ?_⟩) (by assumption) ?_; rotate_left 1; (focus (rintro w' ⟨k0, k1, k2, k3, k4⟩; go_simp; (try with_reducible rfl); done)); try simp only [Act.put, List.setIfInBounds_toArray, List.set_cons_zero, List.set_cons_succ, List.getElem_toArray, List.getElem_cons_zero, List.getElem_cons_succ])
      (refine wpAnyH_take (i := 5) (v := ?_) rfl (by kernel_rfl) (by kernel_rfl) (by kernel_rfl) (fun _ _ _ h => h) (Or.inl ⟨by rfl, ?_⟩) (by assumption) ?_; rotate_left 1; (focus (rintro w' ⟨k0, k1, k2, k3, k4⟩; go_simp; (try with_reducible rfl); done)); try simp only [Act.put, List.setIfInBounds_toArray, List.set_cons_zero, List.set_cons_succ, List.getElem_toArray, List.getElem_cons_zero, List.getElem_cons_succ])
      (refine wpAnyH_take (i := 6) (v := ?_) rfl (by kernel_rfl) (by kernel_rfl) (by kernel_rfl) (fun _ _ _ h => h) (Or.inl ⟨by rfl, ?_⟩) (by assumption) ?_; rotate_left 1; (focus (rintro w' ⟨k0, k1, k2, k3, k4⟩; go_simp; (try with_reducible rfl); done)); try simp only [Act.put, List.setIfInBounds_toArray, List.set_cons_zero, List.set_cons_succ, List.getElem_toArray, List.getElem_cons_zero, List.getElem_cons_succ])
      (refine wpAnyH_take (i := 7) (v := ?_) rfl (by kernel_rfl) (by kernel_rfl) (by kernel_rfl) (fun _ _ _ h => h) (Or.inl ⟨by rfl, ?_⟩) (by assumption) ?_; rotate_left 1; (focus (rintro w' ⟨k0, k1, k2, k3, k4⟩; go_simp; (try with_reducible rfl); done)); try simp only [Act.put, List.setIfInBounds_toArray, List.set_cons_zero, List.set_cons_succ, List.getElem_toArray, List.getElem_cons_zero, List.getElem_cons_succ])
      (refine wpAnyH_take (i := 8) (v := ?_) rfl (by kernel_rfl) (by kernel_rfl) (by kernel_rfl) (fun _ _ _ h => h) (Or.inl ⟨by rfl, ?_⟩) (by assumption) ?_; rotate_left 1; (focus (rintro w' ⟨k0, k1, k2, k3, k4⟩; go_simp; (try with_reducible rfl); done)); try simp only [Act.put, List.setIfInBounds_toArray, List.set_cons_zero, List.set_cons_succ, List.getElem_toArray, List.getElem_cons_zero, List.getElem_cons_succ])
      (refine wpAnyH_take (i := 9) (v := ?_) rfl (by kernel_rfl) (by kernel_rfl) (by kernel_rfl) (fun _ _ _ h => h) (Or.inl ⟨by rfl, ?_⟩) (by assumption) ?_; rotate_left 1; (focus (rintro w' ⟨k0, k1, k2, k3, k4⟩; go_simp; (try with_reducible rfl); done)); try simp only [Act.put, List.setIfInBounds_toArray, List.set_cons_zero, List.set_cons_succ, List.getElem_toArray, List.getElem_cons_zero, List.getElem_cons_succ])
      refine wpAnyH_ready (rs := [10]) (by kernel_rfl) (by simp) ?_
      refine AllReadyH.cons rfl (fun KK hK => ?_) AllReadyH.nil
      go_simp
      go_at_call 11
      refine (mod_any j y4 (by omega) (by omega) j0 j1 _).mono ?_
      rintro e w' ⟨rfl, rfl⟩
      rw [HJ'.out]
      go_wp2_with fail
      refine hK.out _ _ ⟨q0, q1, q2, m2, m4⟩ (fun hHeld2 => ?_)
      clear hK KK hHeld
      have hHeld := hHeld2
      clear hHeld2
      try simp only [Act.put, List.setIfInBounds_toArray, List.set_cons_zero, List.set_cons_succ, List.getElem_toArray, List.getElem_cons_zero, List.getElem_cons_succ]
      refine wpAnyH_ready (rs := [11]) (by kernel_rfl) (by simp) ?_
      refine AllReadyH.cons rfl (fun KK hK => ?_) AllReadyH.nil
      go_simp
      rw [HSH.out, HWP'.out]
      go_at_call 18
      refine (refGo5_any K B (some ⟨gb, 0, none⟩) mk d m d' wd F ((p' : Int) * 2 ^ K) J' W5.drew (HT2.out.next (Below.refl _ W5).drew) HVP.out (by omega) (by omega)).mono ?_
      rintro e w6 ⟨rfl, hb6⟩
      rw [HE1'.out, HE2'.out]
      go_wp2_with fail
      refine hK.out _ _ ⟨(hb6.cell (p := ⟨U3.heap.size, 0, none⟩) qz).trans q0, (hb6.cell (p := ⟨U3.heap.size, 1, none⟩) qz).trans q1, (hb6.cell (p := ⟨U3.heap.size, 2, none⟩) qz).trans q2, (hb6.cell (p := ⟨bv, 2, none⟩) mz).trans m2, (hb6.cell (p := ⟨bv, 4, none⟩) mz).trans m4⟩ (fun hHeld2 => ?_)
      clear hK KK hHeld
      have hHeld := hHeld2
      clear hHeld2
      try simp only [Act.put, List.setIfInBounds_toArray, List.set_cons_zero, List.set_cons_succ, List.getElem_toArray, List.getElem_cons_zero, List.getElem_cons_succ]
      (refine wpAnyH_take (i := 12) (v := ?_) rfl (by kernel_rfl) (by kernel_rfl) (by kernel_rfl) (fun _ _ _ h => h) (Or.inl ⟨by rfl, ?_⟩) (by assumption) ?_; rotate_left 1; (focus (rintro w' ⟨k0, k1, k2, k3, k4⟩; go_simp; (try with_reducible rfl); done)); try simp only [Act.put, List.setIfInBounds_toArray, List.set_cons_zero, List.set_cons_succ, List.getElem_toArray, List.getElem_cons_zero, List.getElem_cons_succ])
      (refine wpAnyH_take (i := 13) (v := ?_) rfl (by kernel_rfl) (by kernel_rfl) (by kernel_rfl) (fun _ _ _ h => h) (Or.inl ⟨by rfl, ?_⟩) (by assumption) ?_; rotate_left 1; (focus (rintro w' ⟨k0, k1, k2, k3, k4⟩; go_simp; (try with_reducible rfl); done)); try simp only [Act.put, List.setIfInBounds_toArray, List.set_cons_zero, List.set_cons_succ, List.getElem_toArray, List.getElem_cons_zero, List.getElem_cons_succ])
      (refine wpAnyH_take (i := 14) (v := ?_) rfl (by kernel_rfl) (by kernel_rfl) (by kernel_rfl) (fun _ _ _ h => h) (Or.inl ⟨by rfl, ?_⟩) (by assumption) ?_; rotate_left 1; (focus (rintro w' ⟨k0, k1, k2, k3, k4⟩; go_simp; (try with_reducible rfl); done)); try simp only [Act.put, List.setIfInBounds_toArray, List.set_cons_zero, List.set_cons_succ, List.getElem_toArray, List.getElem_cons_zero, List.getElem_cons_succ])
      (refine wpAnyH_take (i := 15) (v := ?_) rfl (by kernel_rfl) (by kernel_rfl) (by kernel_rfl) (fun _ _ _ h => h) (Or.inl ⟨by rfl, ?_⟩) (by assumption) ?_; rotate_left 1; (focus (rintro w' ⟨k0, k1, k2, k3, k4⟩; go_simp; (try with_reducible rfl); done)); try simp only [Act.put, List.setIfInBounds_toArray, List.set_cons_zero, List.set_cons_succ, List.getElem_toArray, List.getElem_cons_zero, List.getElem_cons_succ])
      (refine wpAnyH_take (i := 16) (v := ?_) rfl (by kernel_rfl) (by kernel_rfl) (by kernel_rfl) (fun _ _ _ h => h) (Or.inl ⟨by rfl, ?_⟩) (by assumption) ?_; rotate_left 1; (focus (rintro w' ⟨k0, k1, k2, k3, k4⟩; go_simp; (try with_reducible rfl); done)); try simp only [Act.put, List.setIfInBounds_toArray, List.set_cons_zero, List.set_cons_succ, List.getElem_toArray, List.getElem_cons_zero, List.getElem_cons_succ])
      refine wpAnyH_done (by kernel_rfl) ?_ _
      clear hHeld
      obtain ⟨W6, rfl⟩ : ∃ W, W = w6 := ⟨_, rfl⟩
      have hb := (Below.refl _ W5).drew.trans hb6
      have BX3 := Lib.hid (BX2.out.next hb)
      have BV3 := Lib.hid (BV2.out.next hb)
      have BS3 := Lib.hid (BS2.out.next hb)
      have HB3 := Lib.hid (below_next HB2.out (Nat.le_refl _) hb)
      have HA3 := Lib.hid (HA2.out.next hb)
      have HT3 := Lib.hid (HT2.out.next hb)
      clear hb hb6 q0 q1 q2 qz m2 m4 mz BX2 BV2 BS2 HB2 HA2 HT2
      have q0 := BS3.out.cell 0
      have q1 := BS3.out.cell 1
      have q2 := BS3.out.cell 2
      have qz := BS3.out.lt
      simp at q0 q1 q2
      have w1 : IntKind.i64.wrap (qq + 1) = qq + 1 := IntWalk.i64_in _ (by have := HPQ.out; omega)
      have w2 : IntKind.u64.wrap (qq + 1) = qq + 1 := IntWalk.u64_in _ (by have := HPQ.out; omega)
      have w3 : IntKind.i64.wrap (pp + 1) = pp + 1 := IntWalk.i64_in _ (by have := HPQ.out; omega)
      have w4 : IntKind.u64.wrap (pp + 1) = pp + 1 := IntWalk.u64_in _ (by have := HPQ.out; omega)
      obtain ⟨n1, hn1⟩ : ∃ q, q = prB K mk F pp (qq + 1) := ⟨_, rfl⟩
      obtain ⟨n2, hn2⟩ : ∃ q, q = prB K mk F qq (pp + 1) := ⟨_, rfl⟩
      have HN1 := Lib.hid hn1
      have HN2 := Lib.hid hn2
      have hc : Below W6.drew.heap.size W6.drew W6.drew := Below.refl _ _
      have l1 : U3.heap.size < W6.drew.heap.size := qz
      clear hn1 hn2
      go_upto_region 9 with fail
      go_region_held3 (fun w' => w'.cell? ⟨U3.heap.size, 0, none⟩ = some (.int .i64 K) ∧ w'.cell? ⟨U3.heap.size, 1, none⟩ = some (.slice B mk d) ∧ w'.cell? ⟨U3.heap.size, 2, none⟩ = some (.slice (some ⟨gb, 0, none⟩) m d'))
        (first | (with_reducible exact ⟨drew_cellW q0, drew_cellW q1, drew_cellW q2⟩) | (with_reducible exact ⟨(hc.cell (p := ⟨U3.heap.size, 0, none⟩) l1).trans (drew_cellW q0), (hc.cell (p := ⟨U3.heap.size, 1, none⟩) l1).trans (drew_cellW q1), (hc.cell (p := ⟨U3.heap.size, 2, none⟩) l1).trans (drew_cellW q2)⟩))
        (first
          | (go_at_call 12; (with_reducible show Calls _ _ #[_, .int .i64 pp, _] _ _); refine (devNeeds_any K mk d m d' B (some ⟨gb, 0, none⟩) wd F pp (qq + 1) _ ((HA3.out.next (Below.refl _ W6).drew).next hc) ((HT3.out.next (Below.refl _ W6).drew).next hc) HVP.out (by have := HPQ.out; omega) (by have := HPQ.out; omega) (by have := HPQ.out; omega) (by have := HPQ.out; omega)).mono ?_; rintro e w' ⟨rfl, hb⟩; rw [← HN1.out]; have hc := below_next hc (Nat.le_refl _) hb; clear hb)
          | (go_at_call 12; refine (devNeeds_any K mk d m d' B (some ⟨gb, 0, none⟩) wd F qq (pp + 1) _ ((HA3.out.next (Below.refl _ W6).drew).next hc) ((HT3.out.next (Below.refl _ W6).drew).next hc) HVP.out (by have := HPQ.out; omega) (by have := HPQ.out; omega) (by have := HPQ.out; omega) (by have := HPQ.out; omega)).mono ?_; rintro e w' ⟨rfl, hb⟩; rw [← HN2.out]; have hc := below_next hc (Nat.le_refl _) hb; clear hb))
      obtain ⟨W9, rfl⟩ : ∃ W, W = w' := ⟨_, rfl⟩
      have hb := (Below.refl _ W6).drew.trans hc
      have BX4 := Lib.hid (BX3.out.next hb)
      have BV4 := Lib.hid (BV3.out.next hb)
      have BS4 := Lib.hid (BS3.out.next hb)
      have HB4 := Lib.hid (below_next HB3.out (Nat.le_refl _) hb)
      have HA4 := Lib.hid (HA3.out.next hb)
      have HT4 := Lib.hid (HT3.out.next hb)
      clear hb hc l1 q0 q1 q2 qz BX3 BV3 BS3 HB3 HA3 HT3
      have m0 := BX4.out.cell 0
      have r0 := BV4.out.cell 0
      simp at m0 r0
      have HV1 := Lib.hid (HN1.out.trans HU1.out)
      have HV2 := Lib.hid (HN2.out.trans HU2.out)
      have HSX := Lib.hid (show stampZ x1 x0 = x1 * 4294967296 + x0 from by obtain ⟨h1, h2, h3, h4, h5, h6, h7, h8, h9⟩ := HSQ.out; exact stampZ_at h1 h2 h3 h4)
      have HSY := Lib.hid (show stampZ y1 y0 = y1 * 4294967296 + y0 from by obtain ⟨h1, h2, h3, h4, h5, h6, h7, h8, h9⟩ := HSQ.out; exact stampZ_at h5 h6 h7 h8)
      by_cases hxy : x0 = y0
      · have hxy2 : (x0 == y0) = true := by simpa using hxy
        have h1 : n1 = false := by
          have := HSQ.out.2.2.2.2.2.2.2.2 hxy
          rw [HV1.out, decide_eq_false]
          omega
        have h2 : n2 = false := by
          have := HSQ.out.2.2.2.2.2.2.2.2 hxy
          rw [HV2.out, decide_eq_false]
          omega
        subst h1
        subst h2
        clear hxy
        go_wp2_with fail
        refine (awake19_any _).mono ?_
        rintro e w10 ⟨rfl, hb⟩
        have HB10 := Lib.hid (below_next HB4.out (Nat.le_refl _) hb)
        clear hb
        go_wp2_with fail
        go_ret
        exact ⟨rfl, HB10.out⟩
      · have hxy2 : (x0 == y0) = false := by simpa using hxy
        have HNE : Hid (n2 = !n1) := Lib.hid (by
          obtain ⟨h1, h2, h3, h4, h5, h6, h7, h8, h9⟩ := HSQ.out
          rw [HV1.out, HV2.out]
          by_cases h : y1 * 4294967296 + y0 < x1 * 4294967296 + x0
          · rw [decide_eq_true h, decide_eq_false (by omega)]; rfl
          · rw [decide_eq_false h, decide_eq_true (by omega)]; rfl)
        have HBE : Hid (decide (stampZ y1 y0 < stampZ x1 x0) = n1) := Lib.hid (by rw [HSX.out, HSY.out]; exact HV1.out.symm)
        obtain ⟨M, hM⟩ : ∃ M, M = noteS (Int.toNat (K : Int)) mk F pp (qq + 1) [] := ⟨_, rfl⟩
        have hMM : noteS (Int.toNat (K : Int)) mk F pp (qq + 1) M = M := by rw [hM]; exact noteS_twice _ _ _ _ _
        have hML : M.length = if n1 = true then 1 else 0 := by rw [hM, noteS_len, HN1.out, Int.toNat_natCast]
        have hMF : Few18 1048000 M := by rw [hM]; exact ⟨Nat.le_trans (Few18.note (B := 0) ⟨by simp, by simp⟩).1 (by omega), fun x hx => Nat.le_trans ((Few18.note (B := 0) ⟨by simp, by simp⟩).2 x hx) (by omega)⟩
        have HMV := Lib.hid (show ValS M by rw [hM, Int.toNat_natCast]; exact noteS_val (by have := HVP.out.2.2.1; rwa [Int.toNat_natCast] at this) (by omega) ValS.nil)
        have HM := Lib.hid hM
        have HMM := Lib.hid hMM
        have HML := Lib.hid hML
        have HMF := Lib.hid hMF
        have q0 := BS4.out.cell 0
        have q1 := BS4.out.cell 1
        have q2 := BS4.out.cell 2
        have qz := BS4.out.lt
        simp at q0 q1 q2
        clear hxy hM hMM hML hMF
        go_upto_region 12 with fail
        go_wp2_with fail
        refine (devRecord_any K B (some ⟨gb, 0, none⟩) none mk d m d' 0 wd F [] pp (qq + 1) W9 HA4.out HT4.out (TArr.nil _ _) (by have := HPQ.out; omega) (by have := HPQ.out; omega) (by have := HPQ.out; omega) (by have := HPQ.out; omega) ⟨by simp, by simp⟩).mono ?_
        rintro e w12 ⟨v, r, rfl, hb, h⟩
        rcases h with ⟨_, _, rfl, A1, c1, rfl, h⟩ | ⟨h, _⟩
        rotate_left
        · exact absurd ⟨HVP.out, ValS.nil⟩ h
        rw [← HM.out] at h ⊢
        have HTA := Lib.hid h
        have BX5 := Lib.hid (BX4.out.next hb)
        have BV5 := Lib.hid (BV4.out.next hb)
        have BS5 := Lib.hid (BS4.out.next hb)
        have HB5 := Lib.hid (below_next HB4.out (Nat.le_refl _) hb)
        have HA5 := Lib.hid (HA4.out.next hb)
        have HT5 := Lib.hid (HT4.out.next hb)
        have q0 := BS5.out.cell 0
        have q1 := BS5.out.cell 1
        have q2 := BS5.out.cell 2
        have qz := BS5.out.lt
        simp at q0 q1 q2
        clear h hb BX4 BV4 BS4 HB4 HA4 HT4 m0 r0
        go_wp2_with fail
        refine (devRecord_any K B (some ⟨gb, 0, none⟩) A1 mk d m d' c1 wd F M pp (qq + 1) w12 HA5.out HT5.out HTA.out (by have := HPQ.out; omega) (by have := HPQ.out; omega) (by have := HPQ.out; omega) (by have := HPQ.out; omega) HMF.out).mono ?_
        rintro e w13 ⟨v, r, rfl, hb, h⟩
        rcases h with ⟨_, _, rfl, A2, c2, rfl, h⟩ | ⟨h, _⟩
        rotate_left
        · exact absurd ⟨HVP.out, HMV.out⟩ h
        rw [HMM.out] at h ⊢
        have HTB := Lib.hid h
        have HTA := Lib.hid (HTA.out.next hb)
        have BX6 := Lib.hid (BX5.out.next hb)
        have BV6 := Lib.hid (BV5.out.next hb)
        have HB6 := Lib.hid (below_next HB5.out (Nat.le_refl _) hb)
        clear h hb BX5 BV5 BS5 HB5 HA5 HT5 q0 q1 q2 qz
        have m0 := BX6.out.cell 0
        have m1 := BX6.out.cell 1
        have m2 := BX6.out.cell 2
        have m3 := BX6.out.cell 3
        have m4 := BX6.out.cell 4
        have r0 := BV6.out.cell 0
        have r1 := BV6.out.cell 1
        have r2 := BV6.out.cell 2
        have r3 := BV6.out.cell 3
        have r4 := BV6.out.cell 4
        simp at m0 m1 m2 m3 m4 r0 r1 r2 r3 r4
        have e1 := HNE.out
        subst e1
        have g1 : (n1 != !n1) = true := by cases n1 <;> rfl
        have g2 : (n1 == n1) = true := by cases n1 <;> rfl
        have g3 : (((M.length : Int) == 1) == n1) = true := by rw [HML.out]; cases n1 <;> rfl
        go_wp2_with fail
        refine (refBefore_any y0 y1 p' y3 y4 x0 x1 p x3 x4 w13).mono ?_
        rintro e w14 ⟨rfl, hb⟩
        rw [HBE.out]
        have HTA := Lib.hid (HTA.out.next hb)
        have HTB := Lib.hid (HTB.out.next hb)
        have HB7 := Lib.hid (below_next HB6.out (Nat.le_refl _) hb)
        clear hb BX6 BV6 HB6 m0 m1 m2 m3 m4 r0 r1 r2 r3 r4
        go_wp2_with fail
        refine (same18_any A1 A2 c1 c2 M M w14 HTA.out HTB.out).mono ?_
        rintro e w15 ⟨q, rfl, hq, hb⟩
        obtain rfl : q = true := hq.2 rfl
        have HB8 := Lib.hid (below_next HB7.out (Nat.le_refl _) hb)
        clear hq hb
        go_wp2_with fail
        go_ret
        exact ⟨rfl, HB8.out⟩
end Go.Proofs.Ytjkbjbikofindaa
