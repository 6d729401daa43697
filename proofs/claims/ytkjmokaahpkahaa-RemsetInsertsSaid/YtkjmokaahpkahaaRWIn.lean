/-
  The law RemsetInserts: which sets are valid, how many slots they have, how slots are inserted and found.
-/
import Derived.Test.YtkjmokaahpkahaaRSpo
import Derived.Test.YtkjmokaahpkahaaRAwk
import Derived.Test.YtkjmokaahpkahaaRWDr
namespace Go.Proofs.Ytkjmokaahpkahaa
open Go.RowKit
set_option maxRecDepth 100000
set_option linter.unusedVariables false

/-- What Insert answers, said once for both. -/
theorem insOf_get (L : List SetR) (f g s : Int) : ∃ (M : List SetR) (N : Int), ∀ (w : World) (e : Ending) (w' : World), InsOf L f g s w e w' → ∃ A c, e = .returned (.tuple #[.slice A M.length c, .int .i64 N]) ∧ TArr w' (Lt w'.heap.size) A c M ∧ Below w.heap.size w w' := by
  by_cases h : ValS L ∧ numP f ∧ numP g ∧ 0 ≤ s
  · refine ⟨putS f g s L, 0, fun w e w' hi => ?_⟩
    obtain ⟨v, n, rfl, hb, ⟨_, _, _, _, rfl, A, c, rfl, ht⟩ | ⟨hno, _⟩⟩ := hi
    · exact ⟨A, c, rfl, ht, hb⟩
    · exact absurd h hno
  · refine ⟨[], 1, fun w e w' hi => ?_⟩
    obtain ⟨v, n, rfl, hb, ⟨h1, h2, h3, h4, _⟩ | ⟨_, rfl, rfl⟩⟩ := hi
    · exact absurd ⟨h1, h2, h3, h4⟩ h
    · exact ⟨none, 0, rfl, TArr.nil _ _, hb⟩
theorem bool_of (P : Prop) : ∃ q : Bool, q = true ↔ P := by
  by_cases h : P
  · exact ⟨true, by simp [h]⟩
  · exact ⟨false, by simp [h]⟩
theorem bool_eq {P : Prop} {q r : Bool} (h1 : q = true ↔ P) (h2 : r = true ↔ P) : q = r := by
  cases q <;> cases r <;> simp_all
theorem bnd_each {L : List SetR} (h : BndT L) : ∀ x ∈ L, x.sl.length ≤ 301 := fun x hx => Nat.le_trans (sl_le hx) h.2

set_option maxHeartbeats 16000000 in
theorem walkInserts (Ar : Option Addr) (cr : Nat) (Lr : List SetR) (Al : Option Addr) (nl cl : Nat) (from_ to_ slot what at_ by_ : Int) (w : World) (hR : TArr w (Lt w.heap.size) Ar cr Lr) (hRs : ∀ x ∈ Lr, x.sl.length ≤ 140737488355328) (hL : ListP w w.heap.size Al nl cl)
    (f0 : -9223372036854775808 ≤ from_) (f1 : from_ ≤ 9223372036854775807) (t0 : -9223372036854775808 ≤ to_) (t1 : to_ ≤ 9223372036854775807) (s0 : -9223372036854775808 ≤ slot) (s1 : slot ≤ 9223372036854775807)
    (w0 : -9223372036854775808 ≤ what) (w1 : what ≤ 9223372036854775807) (a0 : -9223372036854775808 ≤ at_) (a1 : at_ ≤ 9223372036854775807) (b0 : -9223372036854775808 ≤ by_) (b1 : by_ ≤ 9223372036854775807) :
    Calls Try.prog 3 #[.slice Ar Lr.length cr, .slice Al nl cl, .int .i64 from_, .int .i64 to_, .int .i64 slot, .int .i64 what, .int .i64 at_, .int .i64 by_] w fun e w' => e = .returned (.bool true) ∧ Below w.heap.size w w' := by
  have HL := Lib.hid hL
  have HR := Lib.hid hR
  have HRS := Lib.hid hRs
  have HSP : Hid (∀ (A : Option Addr) (c : Nat) (L : List SetR) (W : World), TArr W (Lt W.heap.size) A c L → ValS L → L.length ≤ 20 → cntT L ≤ 20 → Calls Try.prog 11 #[.slice A L.length c, .int .i64 what, .int .i64 at_, .int .i64 by_] W (SomeT W)) := Lib.hid fun A c L W h1 h2 h3 h4 => spoilt_any A c L what at_ by_ W h1 h2 h3 h4 w0 w1 a0 a1 b0 b1
  have HMD : Hid (∀ (v k : Int) (W : World), (v = from_ ∨ v = to_ ∨ v = slot) → (k = 7 ∨ k = 41 ∨ k = 67) → ∃ p, Calls Try.prog 16 #[.int .i64 v, .int .i64 k] W fun e w' => e = .returned (.int .i64 p) ∧ W = w') := Lib.hid fun v k W h1 h2 => ⟨v % k, mod_any v k (by omega) (by omega) (by omega) (by omega) W⟩
  have HMV : Hid (∀ (v k : Int), (v = from_ ∨ v = to_ ∨ v = slot) → (k = 7 ∨ k = 41 ∨ k = 67) → ∃ p, (∀ W, Calls Try.prog 16 #[.int .i64 v, .int .i64 k] W fun e w' => e = .returned (.int .i64 p) ∧ W = w') ∧ IntKind.i64.wrap (p - 1) = p - 1) := Lib.hid fun v k h1 h2 => by
    have g1 := Int.emod_nonneg v (show k ≠ 0 by omega)
    have g2 := Int.emod_lt_of_pos v (show 0 < k by omega)
    exact ⟨v % k, fun W => mod_any v k (by omega) (by omega) (by omega) (by omega) W, IntWalk.i64_in _ (by omega)⟩
  clear hL hR hRs HMD f0 f1 t0 t1 s0 s1 w0 w1 a0 a1 b0 b1
  go_enter Try.func3, Try.ntmps3
  go_wp2_with fail
  refine (mkSets_any Ar cr Lr w HR.out HRS.out).mono ?_
  rintro e W0 ⟨q, rfl, hq, hb⟩
  have HQ := Lib.hid hq
  have HB0 := Lib.hid hb
  clear hq hb
  cases q with
  | false =>
    go_wp2_with fail
    refine (awake18_any W0).mono ?_
    rintro e W1 ⟨rfl, hb⟩
    have HB1 := Lib.hid (below_next HB0.out (Nat.le_refl _) hb)
    clear hb
    go_wp2_with fail
    go_ret
    exact ⟨rfl, HB1.out⟩
  | true =>
    have HBR := Lib.hid (HQ.out.1 (by first | rfl | trivial))
    go_wp2_with fail
    refine (deck_any Al nl cl W0 (⟨HL.out.1, HL.out.2.1, fun j hj => by
      obtain ⟨b, o, v, e, h1, h2, h3⟩ := HL.out.2.2 j hj
      exact ⟨b, o, v, e, Nat.lt_of_lt_of_le h1 HB0.out.size, (HB0.out.cell (p := ⟨b, o + j, none⟩) h1).trans h2, h3⟩⟩)).mono ?_
    rintro e U ⟨rfl, hd, hb, hz9⟩
    clear hz9
    have HD := Lib.hid hd
    have HBU := Lib.hid hb
    clear hd hb
    go_wp2_with fail
    refine (slots_any W0.heap.size U HD.out).mono ?_
    rintro e V ⟨v, L, rfl, hv, hl, hc, ht, hd, hg⟩
    obtain ⟨A7, c7, rfl, hT⟩ := ht.tarr
    have HV := Lib.hid hv
    have HT := Lib.hid hT
    have HLB := Lib.hid (And.intro hl hc)
    have HBV := Lib.hid (below_next HB0.out (Nat.le_refl _) (below_turn18 HBU.out hg (Nat.le_refl _)))
    clear hv ht hd hg hT hl hc
    go_wp2_with fail
    refine (HSP.out A7 c7 L V HT.out HV.out (by have := HLB.out.1; omega) (by have := HLB.out.2; omega)).mono ?_
    rintro e V2 ⟨A8, c8, L8, rfl, hT8, hbd8, hb8⟩
    obtain ⟨X, hX⟩ : ∃ X, X = V2.alloc (.cells #[.slice A7 L.length c7, .slice Ar Lr.length cr, .slice A8 L8.length c8] 22) := ⟨_, rfl⟩
    have hbx : Below V2.heap.size V2 X := by rw [hX]; exact (Below.refl _ _).alloc (Nat.le_refl _) _
    have HXB := Lib.hid (show Blk X V2.heap.size 22 #[.slice A7 L.length c7, .slice Ar Lr.length cr, .slice A8 L8.length c8] by rw [hX]; exact Blk.new _ _ _)
    have HX := Lib.hid hX
    have HBT := Lib.hid (below_next (below_next HBV.out (Nat.le_refl _) hb8) (Nat.le_refl _) hbx)
    have HT7 := Lib.hid ((HT.out.next hb8).next hbx)
    have HTR := Lib.hid (HR.out.next HBT.out)
    have HT8 := Lib.hid (hT8.next hbx)
    have HBD8 := Lib.hid hbd8
    clear hX hbx hT8 hbd8 hb8
    have AT : Hid (∀ (W : World) (t : Nat), Below X.heap.size X W → t < 3 → ∃ (A5 : Option Addr) (c5 : Nat) (G : List SetR), W.cell? ⟨V2.heap.size, t, none⟩ = some (.slice A5 G.length c5) ∧ TArr W (Lt W.heap.size) A5 c5 G ∧ BndT G) := Lib.hid fun W t hW ht => by
      have d0 := hW.cell (p := ⟨V2.heap.size, 0, none⟩) HXB.out.lt
      have d1 := hW.cell (p := ⟨V2.heap.size, 1, none⟩) HXB.out.lt
      have d2 := hW.cell (p := ⟨V2.heap.size, 2, none⟩) HXB.out.lt
      rcases (by omega : t = 0 ∨ t = 1 ∨ t = 2) with rfl | rfl | rfl
      · exact ⟨A7, c7, L, d0.trans (HXB.out.cell 0), HT7.out.next hW, by have := HLB.out.1; omega, by have := HLB.out.2; omega⟩
      · exact ⟨Ar, cr, Lr, d1.trans (HXB.out.cell 1), HTR.out.next hW, by have := HBR.out.1; omega, by have := HBR.out.2; omega⟩
      · exact ⟨A8, c8, L8, d2.trans (HXB.out.cell 2), HT8.out.next hW, HBD8.out⟩
    go_wp2_with fail
    go_loopw [42] (fun i wr => ∃ t : Nat, t ≤ 3 ∧ i = .int .i64 t ∧ Below X.heap.size X wr) (fun i _ => 3 - (intOf i).toNat)
    case atStart => exact ⟨0, by omega, rfl, by rw [← HX.out]; exact Below.refl _ _⟩
    case round => as_aux_lemma =>
      obtain ⟨t, ht, rfl, hb⟩ := hrel
      have HBW := Lib.hid hb
      clear hb
      by_cases hlt : t < 3
      · have hlt2 : 0 ≤ (t : Int) ∧ (t : Int) < 3 := by omega
        obtain ⟨A5, c5, G, d0, hG, hbd⟩ := AT.out wr t HBW.out hlt
        have HG := Lib.hid hG
        have HBD := Lib.hid hbd
        have HEA := Lib.hid (bnd_each hbd)
        obtain ⟨qv, hqv⟩ := bool_of (ValS G)
        have HQV := Lib.hid hqv
        have hqq : (qv != qv) = false := by simp
        have hcc : ((cntT G : Int) != (cntT G : Int)) = false := by simp
        clear hG hbd hqv
        go_wp2_with fail
        refine (devValid_any A5 c5 G wr HG.out).mono ?_
        rintro e W1 ⟨q, rfl, hq, hb1⟩
        obtain rfl : q = qv := bool_eq hq HQV.out
        have HB1 := Lib.hid hb1
        clear hq hb1
        go_wp2_with fail
        refine (valid18_any A5 c5 G W1 (HG.out.next HB1.out)).mono ?_
        rintro e W2 ⟨q2, rfl, hq, hb2⟩
        obtain rfl : q2 = q := bool_eq hq HQV.out
        have HB2 := Lib.hid (below_next HB1.out (Nat.le_refl _) hb2)
        clear hq hb2
        go_wp2_with fail
        refine (devCount_any A5 c5 G W2 (HG.out.next HB2.out) (by have := HBD.out.2; omega)).mono ?_
        rintro e W3 ⟨rfl, hb3⟩
        have HB3 := Lib.hid (below_next HB2.out (Nat.le_refl _) hb3)
        clear hb3
        go_wp2_with fail
        refine (count18_any A5 c5 G W3 (HG.out.next HB3.out) (by have := HBD.out.2; omega)).mono ?_
        rintro e W4 ⟨rfl, hb4⟩
        have HB4 := Lib.hid (below_next HB3.out (Nat.le_refl _) hb4)
        clear hb4
        obtain ⟨m1, M1, _⟩ := HMV.out from_ 7 (.inl rfl) (.inl rfl)
        obtain ⟨m2, M2, _⟩ := HMV.out to_ 7 (.inr (.inl rfl)) (.inl rfl)
        obtain ⟨m3, M3, _⟩ := HMV.out slot 41 (.inr (.inr rfl)) (.inr (.inl rfl))
        obtain ⟨m4, M4, x4⟩ := HMV.out from_ 67 (.inl rfl) (.inr (.inr rfl))
        obtain ⟨m5, M5, x5⟩ := HMV.out to_ 67 (.inr (.inl rfl)) (.inr (.inr rfl))
        obtain ⟨m6, M6, x6⟩ := HMV.out slot 41 (.inr (.inr rfl)) (.inr (.inl rfl))
        have N1 := Lib.hid M1
        have N2 := Lib.hid M2
        have N3 := Lib.hid M3
        have N4 := Lib.hid M4
        have N5 := Lib.hid M5
        have N6 := Lib.hid M6
        clear M1 M2 M3 M4 M5 M6
        obtain ⟨Y, hY⟩ : ∃ Y, Y = (((W4.alloc (.cells #[.int .i64 from_, .int .i64 to_, .int .i64 slot] 3)).alloc (.cells #[.int .i64 m1, .int .i64 m2, .int .i64 m3] 3)).alloc (.cells #[.int .i64 (m4 - 1), .int .i64 (m5 - 1), .int .i64 (m6 - 1)] 3)).alloc (.cells #[.slice (some ⟨W4.heap.size, 0, none⟩) 3 3, .slice (some ⟨W4.heap.size + 1, 0, none⟩) 3 3, .slice (some ⟨W4.heap.size + 1 + 1, 0, none⟩) 3 3] 23) := ⟨_, rfl⟩
        have B1 : Blk Y W4.heap.size 3 #[.int .i64 from_, .int .i64 to_, .int .i64 slot] := by rw [hY]; exact (((Blk.new _ _ _).alloc _).alloc _).alloc _
        have B2 : Blk Y (W4.heap.size + 1) 3 #[.int .i64 m1, .int .i64 m2, .int .i64 m3] := by rw [hY]; exact ((Blk.newAt _ _ _ _ (by simp)).alloc _).alloc _
        have B3 : Blk Y (W4.heap.size + 1 + 1) 3 #[.int .i64 (m4 - 1), .int .i64 (m5 - 1), .int .i64 (m6 - 1)] := by rw [hY]; exact (Blk.newAt _ _ _ _ (by simp)).alloc _
        have B4 : Blk Y (W4.heap.size + 1 + 1 + 1) 23 #[.slice (some ⟨W4.heap.size, 0, none⟩) 3 3, .slice (some ⟨W4.heap.size + 1, 0, none⟩) 3 3, .slice (some ⟨W4.heap.size + 1 + 1, 0, none⟩) 3 3] := by rw [hY]; exact Blk.newAt _ _ _ _ (by simp)
        have hby : Below W4.heap.size W4 Y := by rw [hY]; exact ((((Below.refl _ _).alloc (Nat.le_refl _) _).alloc (by simp) _).alloc (by simp <;> omega) _).alloc (by simp <;> omega) _
        have HY := Lib.hid hY
        have HBY := Lib.hid (below_next HB4.out (Nat.le_refl _) hby)
        have HGY := Lib.hid (HG.out.next HBY.out)
        have HB41 := Lib.hid B1
        have HB42 := Lib.hid B2
        have HB43 := Lib.hid B3
        have HB44 := Lib.hid B4
        have AT2 : Hid (∀ (W : World) (u : Nat), Below Y.heap.size Y W → u < 3 → ∃ (b : Nat) (p0 p1 p2 : Int), W.cell? ⟨W4.heap.size + 1 + 1 + 1, u, none⟩ = some (.slice (some ⟨b, 0, none⟩) 3 3) ∧ Blk W b 3 #[.int .i64 p0, .int .i64 p1, .int .i64 p2]) := Lib.hid fun W u hW hu => by
          have hB := HB44.out.next hW
          rcases (by omega : u = 0 ∨ u = 1 ∨ u = 2) with rfl | rfl | rfl
          · exact ⟨_, _, _, _, hB.cell 0, HB41.out.next hW⟩
          · exact ⟨_, _, _, _, hB.cell 1, HB42.out.next hW⟩
          · exact ⟨_, _, _, _, hB.cell 2, HB43.out.next hW⟩
        clear hY B1 B2 B3 B4 hby
        go_wp2_with fail
        refine (N1.out _).mono ?_
        rintro e wn ⟨rfl, rfl⟩
        go_wp2_with fail
        refine (N2.out _).mono ?_
        rintro e wn ⟨rfl, rfl⟩
        go_wp2_with fail
        refine (N3.out _).mono ?_
        rintro e wn ⟨rfl, rfl⟩
        go_wp2_with fail
        refine (N4.out _).mono ?_
        rintro e wn ⟨rfl, rfl⟩
        go_wp2_with fail
        refine (N5.out _).mono ?_
        rintro e wn ⟨rfl, rfl⟩
        go_wp2_with fail
        refine (N6.out _).mono ?_
        rintro e wn ⟨rfl, rfl⟩
        clear d0
        go_wp2_with fail
        go_loopw [81] (fun i wq => ∃ u : Nat, u ≤ 3 ∧ i = .int .i64 u ∧ Below Y.heap.size Y wq) (fun i _ => 3 - (intOf i).toNat)
        case atStart => exact ⟨0, by omega, rfl, by rw [← HY.out]; exact Below.refl _ _⟩
        case round => as_aux_lemma =>
          obtain ⟨wq, rfl⟩ : ∃ wq, wq = wr := ⟨_, rfl⟩
          obtain ⟨u, hu, rfl, hb⟩ := hrel
          have HBQ := Lib.hid hb
          clear hb
          by_cases hul : u < 3
          · have hul2 : 0 ≤ (u : Int) ∧ (u : Int) < 3 := by omega
            obtain ⟨bx, p0, p1, p2, d0, hbx⟩ := AT2.out wq u HBQ.out hul
            have HUL := Lib.hid hul
            have HBX := Lib.hid hbx
            have HGQ := Lib.hid (HGY.out.next HBQ.out)
            obtain ⟨M, N, hins⟩ := insOf_get G p0 p1 p2
            have HINS := Lib.hid hins
            obtain ⟨qh, hqh⟩ := bool_of (HasS G p0 p1 p2)
            have HQH := Lib.hid hqh
            have hhh : (qh != qh) = false := by simp
            have hnn : (N != N) = false := by simp
            have HLN := Lib.hid (show G.length ≤ 1048000 by have := HBD.out.1; omega)
            have HLS : Hid (∀ x ∈ G, x.sl.length ≤ 1048000) := Lib.hid fun x hx => by have := HEA.out x hx; omega
            clear hbx hins hqh
            have z0 : wq.drew.cell? ⟨bx, 0, none⟩ = some (.int .i64 p0) := HBX.out.cell 0
            have z1 : wq.drew.cell? ⟨bx, 1, none⟩ = some (.int .i64 p1) := HBX.out.cell 1
            have z2 : wq.drew.cell? ⟨bx, 2, none⟩ = some (.int .i64 p2) := HBX.out.cell 2
            have l12 : bx < wq.drew.heap.size := HBX.out.lt
            have hc12 : Below wq.drew.heap.size wq.drew wq.drew := Below.refl _ _
            go_upto_region 12 with fail
            go_region_held3 (fun w' => w'.cell? ⟨bx, 0, none⟩ = some (.int .i64 p0) ∧ w'.cell? ⟨bx, 1, none⟩ = some (.int .i64 p1) ∧ w'.cell? ⟨bx, 2, none⟩ = some (.int .i64 p2))
              (first | (with_reducible exact ⟨z0, z1, z2⟩) | (with_reducible exact ⟨(hc12.cell (p := ⟨bx, 0, none⟩) l12).trans z0, (hc12.cell (p := ⟨bx, 1, none⟩) l12).trans z1, (hc12.cell (p := ⟨bx, 2, none⟩) l12).trans z2⟩) | exact ⟨z0, z1, z2⟩)
              (first
                | (go_at_call 17; refine (devInsert_any A5 c5 G _ ((HGQ.out.next (Below.refl _ wq).drew).next hc12) p0 p1 p2 HLN.out HLS.out).mono ?_; intro e W12 h; obtain ⟨Aa, ca, rfl, h14, hb14⟩ := HINS.out _ _ _ h; have HTA := Lib.hid h14; clear h h14; replace hc12 : Below wq.drew.heap.size wq.drew W12 := hc12.trans (Below.mono hb14 hc12.size); clear hb14))
            have HC12 := Lib.hid (show Below wq.heap.size wq W12 from (Below.refl _ wq).drew.trans hc12)
            have HBX12 := Lib.hid (HBX.out.next HC12.out)
            have HG12 := Lib.hid (HGQ.out.next HC12.out)
            clear d0
            go_wp2_with fail
            have y0 : W12.drew.cell? ⟨bx, 0, none⟩ = some (.int .i64 p0) := HBX12.out.cell 0
            have y1 : W12.drew.cell? ⟨bx, 1, none⟩ = some (.int .i64 p1) := HBX12.out.cell 1
            have y2 : W12.drew.cell? ⟨bx, 2, none⟩ = some (.int .i64 p2) := HBX12.out.cell 2
            have l13 : bx < W12.drew.heap.size := HBX12.out.lt
            have hc13 : Below W12.drew.heap.size W12.drew W12.drew := Below.refl _ _
            go_upto_region 13 with fail
            go_region_held3 (fun w' => w'.cell? ⟨bx, 0, none⟩ = some (.int .i64 p0) ∧ w'.cell? ⟨bx, 1, none⟩ = some (.int .i64 p1) ∧ w'.cell? ⟨bx, 2, none⟩ = some (.int .i64 p2))
              (first | (with_reducible exact ⟨y0, y1, y2⟩) | (with_reducible exact ⟨(hc13.cell (p := ⟨bx, 0, none⟩) l13).trans y0, (hc13.cell (p := ⟨bx, 1, none⟩) l13).trans y1, (hc13.cell (p := ⟨bx, 2, none⟩) l13).trans y2⟩) | exact ⟨y0, y1, y2⟩)
              (first
                | (go_at_call 18; refine (insert18_any A5 c5 G p0 p1 p2 _ ((HG12.out.next (Below.refl _ W12).drew).next hc13) HLN.out HLS.out).mono ?_; intro e W13 h; obtain ⟨Ab, cb, rfl, h14, hb14⟩ := HINS.out _ _ _ h; have HTB := Lib.hid h14; clear h h14; replace hc13 : Below W12.drew.heap.size W12.drew W13 := hc13.trans (Below.mono hb14 hc13.size); clear hb14))
            have HC13 := Lib.hid (show Below W12.heap.size W12 W13 from (Below.refl _ W12).drew.trans hc13)
            have HBX13 := Lib.hid (HBX12.out.next HC13.out)
            have HG13 : Hid (TArr W13.drew (Lt W13.drew.heap.size) A5 c5 G) := Lib.hid (show TArr W13 (Lt W13.heap.size) A5 c5 G from HG12.out.next HC13.out)
            have HTA13 : Hid (TArr W13.drew (Lt W13.drew.heap.size) Aa ca M) := Lib.hid (show TArr W13 (Lt W13.heap.size) Aa ca M from HTA.out.next HC13.out)
            have HTB13 : Hid (TArr W13.drew (Lt W13.drew.heap.size) Ab cb M) := Lib.hid (show TArr W13 (Lt W13.heap.size) Ab cb M from HTB.out)
            have HBE := Lib.hid (HBQ.out.trans ((HC12.out.trans (HC13.out.mono HC12.out.size)).mono HBQ.out.size))
            go_wp2_with fail
            have x0 : W13.drew.cell? ⟨bx, 0, none⟩ = some (.int .i64 p0) := HBX13.out.cell 0
            have x1 : W13.drew.cell? ⟨bx, 1, none⟩ = some (.int .i64 p1) := HBX13.out.cell 1
            have x2 : W13.drew.cell? ⟨bx, 2, none⟩ = some (.int .i64 p2) := HBX13.out.cell 2
            have l14 : bx < W13.drew.heap.size := HBX13.out.lt
            clear z0 z1 z2 y0 y1 y2 l12 l13 hc12 hc13
            go_upto_region 14 with fail
            cases q2 with
            | false =>
              have HVG : Hid (¬ ValS G) := Lib.hid fun h => absurd (HQV.out.2 h) (by decide)
              refine wp_region_held_drew (S := (fun w' => w'.cell? ⟨bx, 0, none⟩ = some (.int .i64 p0) ∧ w'.cell? ⟨bx, 1, none⟩ = some (.int .i64 p1) ∧ w'.cell? ⟨bx, 2, none⟩ = some (.int .i64 p2))) (by kernel_rfl) ?_ (fun hHeld => ?_)
              · exact ⟨x0, x1, x2⟩
              (refine wpAnyH_take (i := 0) (v := ?_) rfl (by kernel_rfl) (by kernel_rfl) (by kernel_rfl) (fun _ _ _ h => h) (Or.inl ⟨by rfl, ?_⟩) (by assumption) ?_; rotate_left 1; (focus (intro w' hSw; (try dsimp only at hSw); go_simp; (try with_reducible rfl); done)); try simp only [Act.put, List.setIfInBounds_toArray, List.set_cons_zero, List.set_cons_succ, List.getElem_toArray, List.getElem_cons_zero])
              (refine wpAnyH_take (i := 1) (v := ?_) rfl (by kernel_rfl) (by kernel_rfl) (by kernel_rfl) (fun _ _ _ h => h) (Or.inl ⟨by rfl, ?_⟩) (by assumption) ?_; rotate_left 1; (focus (intro w' hSw; (try dsimp only at hSw); go_simp; (try with_reducible rfl); done)); try simp only [Act.put, List.setIfInBounds_toArray, List.set_cons_zero, List.set_cons_succ, List.getElem_toArray, List.getElem_cons_zero, List.getElem_cons_succ])
              (refine wpAnyH_take (i := 2) (v := ?_) rfl (by kernel_rfl) (by kernel_rfl) (by kernel_rfl) (fun _ _ _ h => h) (Or.inl ⟨by rfl, ?_⟩) (by assumption) ?_; rotate_left 1; (focus (intro w' hSw; (try dsimp only at hSw); go_simp; (try with_reducible rfl); done)); try simp only [Act.put, List.setIfInBounds_toArray, List.set_cons_zero, List.set_cons_succ, List.getElem_toArray, List.getElem_cons_zero, List.getElem_cons_succ])
              (refine wpAnyH_take (i := 3) (v := ?_) rfl (by kernel_rfl) (by kernel_rfl) (by kernel_rfl) (fun _ _ _ h => h) (Or.inl ⟨by rfl, ?_⟩) (by assumption) ?_; rotate_left 1; (focus (intro w' hSw; (try dsimp only at hSw); go_simp; (try with_reducible rfl); done)); try simp only [Act.put, List.setIfInBounds_toArray, List.set_cons_zero, List.set_cons_succ, List.getElem_toArray, List.getElem_cons_zero, List.getElem_cons_succ])
              (refine wpAnyH_take (i := 4) (v := ?_) rfl (by kernel_rfl) (by kernel_rfl) (by kernel_rfl) (fun _ _ _ h => h) (Or.inl ⟨by rfl, ?_⟩) (by assumption) ?_; rotate_left 1; (focus (intro w' hSw; (try dsimp only at hSw); go_simp; (try with_reducible rfl); done)); try simp only [Act.put, List.setIfInBounds_toArray, List.set_cons_zero, List.set_cons_succ, List.getElem_toArray, List.getElem_cons_zero, List.getElem_cons_succ])
              (refine wpAnyH_take (i := 5) (v := ?_) rfl (by kernel_rfl) (by kernel_rfl) (by kernel_rfl) (fun _ _ _ h => h) (Or.inl ⟨by rfl, ?_⟩) (by assumption) ?_; rotate_left 1; (focus (intro w' hSw; (try dsimp only at hSw); go_simp; (try with_reducible rfl); done)); try simp only [Act.put, List.setIfInBounds_toArray, List.set_cons_zero, List.set_cons_succ, List.getElem_toArray, List.getElem_cons_zero, List.getElem_cons_succ])
              refine wpAnyH_ready (rs := [6]) (by kernel_rfl) (by simp) ?_
              refine AllReadyH.cons rfl (fun K hK => ?_) AllReadyH.nil
              go_simp
              refine (same18_any Aa Ab ca cb M M _ HTA13.out HTB13.out).mono ?_
              rintro e y1 ⟨q, rfl, hq, hb1⟩
              obtain rfl : q = true := hq.2 rfl
              have HY1 := Lib.hid hb1
              clear hq hb1
              go_wp2_with fail
              refine hK.out _ _ ⟨(HY1.out.cell (p := ⟨bx, 0, none⟩) l14).trans x0, (HY1.out.cell (p := ⟨bx, 1, none⟩) l14).trans x1, (HY1.out.cell (p := ⟨bx, 2, none⟩) l14).trans x2⟩ (fun hHeld2 => ?_)
              clear hK K hHeld
              try simp only [Act.put, List.setIfInBounds_toArray, List.set_cons_zero, List.set_cons_succ, List.getElem_toArray, List.getElem_cons_zero, List.getElem_cons_succ]
              have hHeld := hHeld2
              clear hHeld2
              (refine wpAnyH_take (i := 7) (v := ?_) rfl (by kernel_rfl) (by kernel_rfl) (by kernel_rfl) (fun _ _ _ h => h) (Or.inl ⟨by rfl, ?_⟩) (by assumption) ?_; rotate_left 1; (focus (intro w' hSw; (try dsimp only at hSw); go_simp; (try with_reducible rfl); done)); try simp only [Act.put, List.setIfInBounds_toArray, List.set_cons_zero, List.set_cons_succ, List.getElem_toArray, List.getElem_cons_zero, List.getElem_cons_succ])
              (refine wpAnyH_take (i := 8) (v := ?_) rfl (by kernel_rfl) (by kernel_rfl) (by kernel_rfl) (fun _ _ _ h => h) (Or.inl ⟨by rfl, ?_⟩) (by assumption) ?_; rotate_left 1; (focus (intro w' hSw; (try dsimp only at hSw); go_simp; (try with_reducible rfl); done)); try simp only [Act.put, List.setIfInBounds_toArray, List.set_cons_zero, List.set_cons_succ, List.getElem_toArray, List.getElem_cons_zero, List.getElem_cons_succ])
              (refine wpAnyH_take (i := 9) (v := ?_) rfl (by kernel_rfl) (by kernel_rfl) (by kernel_rfl) (fun _ _ _ h => h) (Or.inl ⟨by rfl, ?_⟩) (by assumption) ?_; rotate_left 1; (focus (intro w' hSw; (try dsimp only at hSw); go_simp; (try with_reducible rfl); done)); try simp only [Act.put, List.setIfInBounds_toArray, List.set_cons_zero, List.set_cons_succ, List.getElem_toArray, List.getElem_cons_zero, List.getElem_cons_succ])
              (refine wpAnyH_take (i := 10) (v := ?_) rfl (by kernel_rfl) (by kernel_rfl) (by kernel_rfl) (fun _ _ _ h => h) (Or.inl ⟨by rfl, ?_⟩) (by assumption) ?_; rotate_left 1; (focus (intro w' hSw; (try dsimp only at hSw); go_simp; (try with_reducible rfl); done)); try simp only [Act.put, List.setIfInBounds_toArray, List.set_cons_zero, List.set_cons_succ, List.getElem_toArray, List.getElem_cons_zero, List.getElem_cons_succ])
              refine wpAnyH_ready (rs := [11]) (by kernel_rfl) (by simp) ?_
              refine AllReadyH.cons rfl (fun K hK => ?_) AllReadyH.nil
              go_simp
              refine (valid18_any A5 c5 G _ (HG13.out.next HY1.out)).mono ?_
              rintro e y2 ⟨q, rfl, hq, hb2⟩
              obtain rfl : q = false := by
                cases q
                · rfl
                · exact absurd (hq.1 rfl) HVG.out
              have HY2 := Lib.hid (HY1.out.trans (hb2.mono HY1.out.size))
              clear hq hb2
              go_wp2_with fail
              refine hK.out _ _ ⟨(HY2.out.cell (p := ⟨bx, 0, none⟩) l14).trans x0, (HY2.out.cell (p := ⟨bx, 1, none⟩) l14).trans x1, (HY2.out.cell (p := ⟨bx, 2, none⟩) l14).trans x2⟩ (fun hHeld2 => ?_)
              clear hK K hHeld
              try simp only [Act.put, List.setIfInBounds_toArray, List.set_cons_zero, List.set_cons_succ, List.getElem_toArray, List.getElem_cons_zero, List.getElem_cons_succ]
              have hHeld := hHeld2
              clear hHeld2
              (refine wpAnyH_take (i := 12) (v := ?_) rfl (by kernel_rfl) (by kernel_rfl) (by kernel_rfl) (fun _ _ _ h => h) (Or.inl ⟨by rfl, ?_⟩) (by assumption) ?_; rotate_left 1; (focus (intro w' hSw; (try dsimp only at hSw); go_simp; (try with_reducible rfl); done)); try simp only [Act.put, List.setIfInBounds_toArray, List.set_cons_zero, List.set_cons_succ, List.getElem_toArray, List.getElem_cons_zero, List.getElem_cons_succ])
              (refine wpAnyH_take (i := 13) (v := undef) rfl (by kernel_rfl) (by kernel_rfl) (by kernel_rfl) (fun _ _ _ h => h) (Or.inr ⟨by rfl, rfl⟩) (by assumption) ?_; try simp only [Act.put, List.setIfInBounds_toArray, List.set_cons_zero, List.set_cons_succ, List.getElem_toArray, List.getElem_cons_zero, List.getElem_cons_succ])
              (refine wpAnyH_take (i := 14) (v := undef) rfl (by kernel_rfl) (by kernel_rfl) (by kernel_rfl) (fun _ _ _ h => h) (Or.inr ⟨by rfl, rfl⟩) (by assumption) ?_; try simp only [Act.put, List.setIfInBounds_toArray, List.set_cons_zero, List.set_cons_succ, List.getElem_toArray, List.getElem_cons_zero, List.getElem_cons_succ])
              (refine wpAnyH_take (i := 15) (v := undef) rfl (by kernel_rfl) (by kernel_rfl) (by kernel_rfl) (fun _ _ _ h => h) (Or.inr ⟨by rfl, rfl⟩) (by assumption) ?_; try simp only [Act.put, List.setIfInBounds_toArray, List.set_cons_zero, List.set_cons_succ, List.getElem_toArray, List.getElem_cons_zero, List.getElem_cons_succ])
              (refine wpAnyH_take (i := 16) (v := undef) rfl (by kernel_rfl) (by kernel_rfl) (by kernel_rfl) (fun _ _ _ h => h) (Or.inr ⟨by rfl, rfl⟩) (by assumption) ?_; try simp only [Act.put, List.setIfInBounds_toArray, List.set_cons_zero, List.set_cons_succ, List.getElem_toArray, List.getElem_cons_zero, List.getElem_cons_succ])
              (refine wpAnyH_take (i := 17) (v := undef) rfl (by kernel_rfl) (by kernel_rfl) (by kernel_rfl) (fun _ _ _ h => h) (Or.inr ⟨by rfl, rfl⟩) (by assumption) ?_; try simp only [Act.put, List.setIfInBounds_toArray, List.set_cons_zero, List.set_cons_succ, List.getElem_toArray, List.getElem_cons_zero, List.getElem_cons_succ])
              (refine wpAnyH_take (i := 18) (v := undef) rfl (by kernel_rfl) (by kernel_rfl) (by kernel_rfl) (fun _ _ _ h => h) (Or.inr ⟨by rfl, rfl⟩) (by assumption) ?_; try simp only [Act.put, List.setIfInBounds_toArray, List.set_cons_zero, List.set_cons_succ, List.getElem_toArray, List.getElem_cons_zero, List.getElem_cons_succ])
              (refine wpAnyH_take (i := 19) (v := undef) rfl (by kernel_rfl) (by kernel_rfl) (by kernel_rfl) (fun _ _ _ h => h) (Or.inr ⟨by rfl, rfl⟩) (by assumption) ?_; try simp only [Act.put, List.setIfInBounds_toArray, List.set_cons_zero, List.set_cons_succ, List.getElem_toArray, List.getElem_cons_zero, List.getElem_cons_succ])
              (refine wpAnyH_take (i := 20) (v := undef) rfl (by kernel_rfl) (by kernel_rfl) (by kernel_rfl) (fun _ _ _ h => h) (Or.inr ⟨by rfl, rfl⟩) (by assumption) ?_; try simp only [Act.put, List.setIfInBounds_toArray, List.set_cons_zero, List.set_cons_succ, List.getElem_toArray, List.getElem_cons_zero, List.getElem_cons_succ])
              (refine wpAnyH_take (i := 21) (v := undef) rfl (by kernel_rfl) (by kernel_rfl) (by kernel_rfl) (fun _ _ _ h => h) (Or.inr ⟨by rfl, rfl⟩) (by assumption) ?_; try simp only [Act.put, List.setIfInBounds_toArray, List.set_cons_zero, List.set_cons_succ, List.getElem_toArray, List.getElem_cons_zero, List.getElem_cons_succ])
              (refine wpAnyH_take (i := 22) (v := undef) rfl (by kernel_rfl) (by kernel_rfl) (by kernel_rfl) (fun _ _ _ h => h) (Or.inr ⟨by rfl, rfl⟩) (by assumption) ?_; try simp only [Act.put, List.setIfInBounds_toArray, List.set_cons_zero, List.set_cons_succ, List.getElem_toArray, List.getElem_cons_zero, List.getElem_cons_succ])
              (refine wpAnyH_take (i := 23) (v := undef) rfl (by kernel_rfl) (by kernel_rfl) (by kernel_rfl) (fun _ _ _ h => h) (Or.inr ⟨by rfl, rfl⟩) (by assumption) ?_; try simp only [Act.put, List.setIfInBounds_toArray, List.set_cons_zero, List.set_cons_succ, List.getElem_toArray, List.getElem_cons_zero, List.getElem_cons_succ])
              (refine wpAnyH_take (i := 24) (v := undef) rfl (by kernel_rfl) (by kernel_rfl) (by kernel_rfl) (fun _ _ _ h => h) (Or.inr ⟨by rfl, rfl⟩) (by assumption) ?_; try simp only [Act.put, List.setIfInBounds_toArray, List.set_cons_zero, List.set_cons_succ, List.getElem_toArray, List.getElem_cons_zero, List.getElem_cons_succ])
              (refine wpAnyH_take (i := 25) (v := undef) rfl (by kernel_rfl) (by kernel_rfl) (by kernel_rfl) (fun _ _ _ h => h) (Or.inr ⟨by rfl, rfl⟩) (by assumption) ?_; try simp only [Act.put, List.setIfInBounds_toArray, List.set_cons_zero, List.set_cons_succ, List.getElem_toArray, List.getElem_cons_zero, List.getElem_cons_succ])
              (refine wpAnyH_take (i := 26) (v := undef) rfl (by kernel_rfl) (by kernel_rfl) (by kernel_rfl) (fun _ _ _ h => h) (Or.inr ⟨by rfl, rfl⟩) (by assumption) ?_; try simp only [Act.put, List.setIfInBounds_toArray, List.set_cons_zero, List.set_cons_succ, List.getElem_toArray, List.getElem_cons_zero, List.getElem_cons_succ])
              (refine wpAnyH_take (i := 27) (v := undef) rfl (by kernel_rfl) (by kernel_rfl) (by kernel_rfl) (fun _ _ _ h => h) (Or.inr ⟨by rfl, rfl⟩) (by assumption) ?_; try simp only [Act.put, List.setIfInBounds_toArray, List.set_cons_zero, List.set_cons_succ, List.getElem_toArray, List.getElem_cons_zero, List.getElem_cons_succ])
              (refine wpAnyH_take (i := 28) (v := undef) rfl (by kernel_rfl) (by kernel_rfl) (by kernel_rfl) (fun _ _ _ h => h) (Or.inr ⟨by rfl, rfl⟩) (by assumption) ?_; try simp only [Act.put, List.setIfInBounds_toArray, List.set_cons_zero, List.set_cons_succ, List.getElem_toArray, List.getElem_cons_zero, List.getElem_cons_succ])
              (refine wpAnyH_take (i := 29) (v := undef) rfl (by kernel_rfl) (by kernel_rfl) (by kernel_rfl) (fun _ _ _ h => h) (Or.inr ⟨by rfl, rfl⟩) (by assumption) ?_; try simp only [Act.put, List.setIfInBounds_toArray, List.set_cons_zero, List.set_cons_succ, List.getElem_toArray, List.getElem_cons_zero, List.getElem_cons_succ])
              (refine wpAnyH_take (i := 30) (v := undef) rfl (by kernel_rfl) (by kernel_rfl) (by kernel_rfl) (fun _ _ _ h => h) (Or.inr ⟨by rfl, rfl⟩) (by assumption) ?_; try simp only [Act.put, List.setIfInBounds_toArray, List.set_cons_zero, List.set_cons_succ, List.getElem_toArray, List.getElem_cons_zero, List.getElem_cons_succ])
              (refine wpAnyH_take (i := 31) (v := undef) rfl (by kernel_rfl) (by kernel_rfl) (by kernel_rfl) (fun _ _ _ h => h) (Or.inr ⟨by rfl, rfl⟩) (by assumption) ?_; try simp only [Act.put, List.setIfInBounds_toArray, List.set_cons_zero, List.set_cons_succ, List.getElem_toArray, List.getElem_cons_zero, List.getElem_cons_succ])
              (refine wpAnyH_take (i := 32) (v := undef) rfl (by kernel_rfl) (by kernel_rfl) (by kernel_rfl) (fun _ _ _ h => h) (Or.inr ⟨by rfl, rfl⟩) (by assumption) ?_; try simp only [Act.put, List.setIfInBounds_toArray, List.set_cons_zero, List.set_cons_succ, List.getElem_toArray, List.getElem_cons_zero, List.getElem_cons_succ])
              (refine wpAnyH_take (i := 33) (v := undef) rfl (by kernel_rfl) (by kernel_rfl) (by kernel_rfl) (fun _ _ _ h => h) (Or.inr ⟨by rfl, rfl⟩) (by assumption) ?_; try simp only [Act.put, List.setIfInBounds_toArray, List.set_cons_zero, List.set_cons_succ, List.getElem_toArray, List.getElem_cons_zero, List.getElem_cons_succ])
              (refine wpAnyH_take (i := 34) (v := undef) rfl (by kernel_rfl) (by kernel_rfl) (by kernel_rfl) (fun _ _ _ h => h) (Or.inr ⟨by rfl, rfl⟩) (by assumption) ?_; try simp only [Act.put, List.setIfInBounds_toArray, List.set_cons_zero, List.set_cons_succ, List.getElem_toArray, List.getElem_cons_zero, List.getElem_cons_succ])
              (refine wpAnyH_take (i := 35) (v := undef) rfl (by kernel_rfl) (by kernel_rfl) (by kernel_rfl) (fun _ _ _ h => h) (Or.inr ⟨by rfl, rfl⟩) (by assumption) ?_; try simp only [Act.put, List.setIfInBounds_toArray, List.set_cons_zero, List.set_cons_succ, List.getElem_toArray, List.getElem_cons_zero, List.getElem_cons_succ])
              (refine wpAnyH_take (i := 36) (v := ?_) rfl (by kernel_rfl) (by kernel_rfl) (by kernel_rfl) (fun _ _ _ h => h) (Or.inl ⟨by rfl, ?_⟩) (by assumption) ?_; rotate_left 1; (focus (intro w' hSw; (try dsimp only at hSw); go_simp; (try with_reducible rfl); done)); try simp only [Act.put, List.setIfInBounds_toArray, List.set_cons_zero, List.set_cons_succ, List.getElem_toArray, List.getElem_cons_zero, List.getElem_cons_succ])
              (refine wpAnyH_take (i := 37) (v := ?_) rfl (by kernel_rfl) (by kernel_rfl) (by kernel_rfl) (fun _ _ _ h => h) (Or.inl ⟨by rfl, ?_⟩) (by assumption) ?_; rotate_left 1; (focus (intro w' hSw; (try dsimp only at hSw); go_simp; (try with_reducible rfl); done)); try simp only [Act.put, List.setIfInBounds_toArray, List.set_cons_zero, List.set_cons_succ, List.getElem_toArray, List.getElem_cons_zero, List.getElem_cons_succ])
              refine wpAnyH_done (by kernel_rfl) ?_ _
              go_wp2_with fail
              exact ⟨⟨u + 1, HUL.out, by go_num, HBE.out.drew.trans (HY2.out.mono HBE.out.size)⟩, by have := HUL.out; simp [intOf]; omega⟩
            | true =>
              have HVG : Hid (ValS G) := Lib.hid (HQV.out.1 rfl)
              refine wp_region_held_drew (S := (fun w' => w'.cell? ⟨bx, 0, none⟩ = some (.int .i64 p0) ∧ w'.cell? ⟨bx, 1, none⟩ = some (.int .i64 p1) ∧ w'.cell? ⟨bx, 2, none⟩ = some (.int .i64 p2))) (by kernel_rfl) ?_ (fun hHeld => ?_)
              · exact ⟨x0, x1, x2⟩
              (refine wpAnyH_take (i := 0) (v := ?_) rfl (by kernel_rfl) (by kernel_rfl) (by kernel_rfl) (fun _ _ _ h => h) (Or.inl ⟨by rfl, ?_⟩) (by assumption) ?_; rotate_left 1; (focus (intro w' hSw; (try dsimp only at hSw); go_simp; (try with_reducible rfl); done)); try simp only [Act.put, List.setIfInBounds_toArray, List.set_cons_zero, List.set_cons_succ, List.getElem_toArray, List.getElem_cons_zero])
              (refine wpAnyH_take (i := 1) (v := ?_) rfl (by kernel_rfl) (by kernel_rfl) (by kernel_rfl) (fun _ _ _ h => h) (Or.inl ⟨by rfl, ?_⟩) (by assumption) ?_; rotate_left 1; (focus (intro w' hSw; (try dsimp only at hSw); go_simp; (try with_reducible rfl); done)); try simp only [Act.put, List.setIfInBounds_toArray, List.set_cons_zero, List.set_cons_succ, List.getElem_toArray, List.getElem_cons_zero, List.getElem_cons_succ])
              (refine wpAnyH_take (i := 2) (v := ?_) rfl (by kernel_rfl) (by kernel_rfl) (by kernel_rfl) (fun _ _ _ h => h) (Or.inl ⟨by rfl, ?_⟩) (by assumption) ?_; rotate_left 1; (focus (intro w' hSw; (try dsimp only at hSw); go_simp; (try with_reducible rfl); done)); try simp only [Act.put, List.setIfInBounds_toArray, List.set_cons_zero, List.set_cons_succ, List.getElem_toArray, List.getElem_cons_zero, List.getElem_cons_succ])
              (refine wpAnyH_take (i := 3) (v := ?_) rfl (by kernel_rfl) (by kernel_rfl) (by kernel_rfl) (fun _ _ _ h => h) (Or.inl ⟨by rfl, ?_⟩) (by assumption) ?_; rotate_left 1; (focus (intro w' hSw; (try dsimp only at hSw); go_simp; (try with_reducible rfl); done)); try simp only [Act.put, List.setIfInBounds_toArray, List.set_cons_zero, List.set_cons_succ, List.getElem_toArray, List.getElem_cons_zero, List.getElem_cons_succ])
              (refine wpAnyH_take (i := 4) (v := ?_) rfl (by kernel_rfl) (by kernel_rfl) (by kernel_rfl) (fun _ _ _ h => h) (Or.inl ⟨by rfl, ?_⟩) (by assumption) ?_; rotate_left 1; (focus (intro w' hSw; (try dsimp only at hSw); go_simp; (try with_reducible rfl); done)); try simp only [Act.put, List.setIfInBounds_toArray, List.set_cons_zero, List.set_cons_succ, List.getElem_toArray, List.getElem_cons_zero, List.getElem_cons_succ])
              (refine wpAnyH_take (i := 5) (v := ?_) rfl (by kernel_rfl) (by kernel_rfl) (by kernel_rfl) (fun _ _ _ h => h) (Or.inl ⟨by rfl, ?_⟩) (by assumption) ?_; rotate_left 1; (focus (intro w' hSw; (try dsimp only at hSw); go_simp; (try with_reducible rfl); done)); try simp only [Act.put, List.setIfInBounds_toArray, List.set_cons_zero, List.set_cons_succ, List.getElem_toArray, List.getElem_cons_zero, List.getElem_cons_succ])
              refine wpAnyH_ready (rs := [6]) (by kernel_rfl) (by simp) ?_
              refine AllReadyH.cons rfl (fun K hK => ?_) AllReadyH.nil
              go_simp
              refine (same18_any Aa Ab ca cb M M _ HTA13.out HTB13.out).mono ?_
              rintro e y1 ⟨q, rfl, hq, hb1⟩
              obtain rfl : q = true := hq.2 rfl
              have HY1 := Lib.hid hb1
              clear hq hb1
              go_wp2_with fail
              refine hK.out _ _ ⟨(HY1.out.cell (p := ⟨bx, 0, none⟩) l14).trans x0, (HY1.out.cell (p := ⟨bx, 1, none⟩) l14).trans x1, (HY1.out.cell (p := ⟨bx, 2, none⟩) l14).trans x2⟩ (fun hHeld2 => ?_)
              clear hK K hHeld
              try simp only [Act.put, List.setIfInBounds_toArray, List.set_cons_zero, List.set_cons_succ, List.getElem_toArray, List.getElem_cons_zero, List.getElem_cons_succ]
              have hHeld := hHeld2
              clear hHeld2
              (refine wpAnyH_take (i := 7) (v := ?_) rfl (by kernel_rfl) (by kernel_rfl) (by kernel_rfl) (fun _ _ _ h => h) (Or.inl ⟨by rfl, ?_⟩) (by assumption) ?_; rotate_left 1; (focus (intro w' hSw; (try dsimp only at hSw); go_simp; (try with_reducible rfl); done)); try simp only [Act.put, List.setIfInBounds_toArray, List.set_cons_zero, List.set_cons_succ, List.getElem_toArray, List.getElem_cons_zero, List.getElem_cons_succ])
              (refine wpAnyH_take (i := 8) (v := ?_) rfl (by kernel_rfl) (by kernel_rfl) (by kernel_rfl) (fun _ _ _ h => h) (Or.inl ⟨by rfl, ?_⟩) (by assumption) ?_; rotate_left 1; (focus (intro w' hSw; (try dsimp only at hSw); go_simp; (try with_reducible rfl); done)); try simp only [Act.put, List.setIfInBounds_toArray, List.set_cons_zero, List.set_cons_succ, List.getElem_toArray, List.getElem_cons_zero, List.getElem_cons_succ])
              (refine wpAnyH_take (i := 9) (v := ?_) rfl (by kernel_rfl) (by kernel_rfl) (by kernel_rfl) (fun _ _ _ h => h) (Or.inl ⟨by rfl, ?_⟩) (by assumption) ?_; rotate_left 1; (focus (intro w' hSw; (try dsimp only at hSw); go_simp; (try with_reducible rfl); done)); try simp only [Act.put, List.setIfInBounds_toArray, List.set_cons_zero, List.set_cons_succ, List.getElem_toArray, List.getElem_cons_zero, List.getElem_cons_succ])
              (refine wpAnyH_take (i := 10) (v := ?_) rfl (by kernel_rfl) (by kernel_rfl) (by kernel_rfl) (fun _ _ _ h => h) (Or.inl ⟨by rfl, ?_⟩) (by assumption) ?_; rotate_left 1; (focus (intro w' hSw; (try dsimp only at hSw); go_simp; (try with_reducible rfl); done)); try simp only [Act.put, List.setIfInBounds_toArray, List.set_cons_zero, List.set_cons_succ, List.getElem_toArray, List.getElem_cons_zero, List.getElem_cons_succ])
              refine wpAnyH_ready (rs := [11]) (by kernel_rfl) (by simp) ?_
              refine AllReadyH.cons rfl (fun K hK => ?_) AllReadyH.nil
              go_simp
              refine (valid18_any A5 c5 G _ (HG13.out.next HY1.out)).mono ?_
              rintro e y2 ⟨q, rfl, hq, hb2⟩
              obtain rfl : q = true := hq.2 HVG.out
              have HY2 := Lib.hid (HY1.out.trans (hb2.mono HY1.out.size))
              clear hq hb2
              go_wp2_with fail
              refine hK.out _ _ ⟨(HY2.out.cell (p := ⟨bx, 0, none⟩) l14).trans x0, (HY2.out.cell (p := ⟨bx, 1, none⟩) l14).trans x1, (HY2.out.cell (p := ⟨bx, 2, none⟩) l14).trans x2⟩ (fun hHeld2 => ?_)
              clear hK K hHeld
              try simp only [Act.put, List.setIfInBounds_toArray, List.set_cons_zero, List.set_cons_succ, List.getElem_toArray, List.getElem_cons_zero, List.getElem_cons_succ]
              have hHeld := hHeld2
              clear hHeld2
              (refine wpAnyH_take (i := 12) (v := ?_) rfl (by kernel_rfl) (by kernel_rfl) (by kernel_rfl) (fun _ _ _ h => h) (Or.inl ⟨by rfl, ?_⟩) (by assumption) ?_; rotate_left 1; (focus (intro w' hSw; (try dsimp only at hSw); go_simp; (try with_reducible rfl); done)); try simp only [Act.put, List.setIfInBounds_toArray, List.set_cons_zero, List.set_cons_succ, List.getElem_toArray, List.getElem_cons_zero, List.getElem_cons_succ])
              (refine wpAnyH_take (i := 13) (v := ?_) rfl (by kernel_rfl) (by kernel_rfl) (by kernel_rfl) (fun _ _ _ h => h) (Or.inl ⟨by rfl, ?_⟩) (by assumption) ?_; rotate_left 1; (focus (intro w' hSw; (try dsimp only at hSw); go_simp; (try with_reducible rfl); done)); try simp only [Act.put, List.setIfInBounds_toArray, List.set_cons_zero, List.set_cons_succ, List.getElem_toArray, List.getElem_cons_zero, List.getElem_cons_succ])
              (refine wpAnyH_take (i := 14) (v := ?_) rfl (by kernel_rfl) (by kernel_rfl) (by kernel_rfl) (fun _ _ _ h => h) (Or.inl ⟨by rfl, ?_⟩) (by assumption) ?_; rotate_left 1; (focus (intro w' hSw; (try dsimp only at hSw); go_simp; (try with_reducible rfl); done)); try simp only [Act.put, List.setIfInBounds_toArray, List.set_cons_zero, List.set_cons_succ, List.getElem_toArray, List.getElem_cons_zero, List.getElem_cons_succ])
              (refine wpAnyH_take (i := 15) (v := ?_) rfl (by kernel_rfl) (by kernel_rfl) (by kernel_rfl) (fun _ _ _ h => h) (Or.inl ⟨by rfl, ?_⟩) (by assumption) ?_; rotate_left 1; (focus (intro w' hSw; (try dsimp only at hSw); go_simp; (try with_reducible rfl); done)); try simp only [Act.put, List.setIfInBounds_toArray, List.set_cons_zero, List.set_cons_succ, List.getElem_toArray, List.getElem_cons_zero, List.getElem_cons_succ])
              (refine wpAnyH_take (i := 16) (v := ?_) rfl (by kernel_rfl) (by kernel_rfl) (by kernel_rfl) (fun _ _ _ h => h) (Or.inl ⟨by rfl, ?_⟩) (by assumption) ?_; rotate_left 1; (focus (intro w' hSw; (try dsimp only at hSw); go_simp; (try with_reducible rfl); done)); try simp only [Act.put, List.setIfInBounds_toArray, List.set_cons_zero, List.set_cons_succ, List.getElem_toArray, List.getElem_cons_zero, List.getElem_cons_succ])
              (refine wpAnyH_take (i := 17) (v := ?_) rfl (by kernel_rfl) (by kernel_rfl) (by kernel_rfl) (fun _ _ _ h => h) (Or.inl ⟨by rfl, ?_⟩) (by assumption) ?_; rotate_left 1; (focus (intro w' hSw; (try dsimp only at hSw); go_simp; (try with_reducible rfl); done)); try simp only [Act.put, List.setIfInBounds_toArray, List.set_cons_zero, List.set_cons_succ, List.getElem_toArray, List.getElem_cons_zero, List.getElem_cons_succ])
              (refine wpAnyH_take (i := 18) (v := ?_) rfl (by kernel_rfl) (by kernel_rfl) (by kernel_rfl) (fun _ _ _ h => h) (Or.inl ⟨by rfl, ?_⟩) (by assumption) ?_; rotate_left 1; (focus (intro w' hSw; (try dsimp only at hSw); go_simp; (try with_reducible rfl); done)); try simp only [Act.put, List.setIfInBounds_toArray, List.set_cons_zero, List.set_cons_succ, List.getElem_toArray, List.getElem_cons_zero, List.getElem_cons_succ])
              (refine wpAnyH_take (i := 19) (v := ?_) rfl (by kernel_rfl) (by kernel_rfl) (by kernel_rfl) (fun _ _ _ h => h) (Or.inl ⟨by rfl, ?_⟩) (by assumption) ?_; rotate_left 1; (focus (intro w' hSw; (try dsimp only at hSw); go_simp; (try with_reducible rfl); done)); try simp only [Act.put, List.setIfInBounds_toArray, List.set_cons_zero, List.set_cons_succ, List.getElem_toArray, List.getElem_cons_zero, List.getElem_cons_succ])
              (refine wpAnyH_take (i := 20) (v := ?_) rfl (by kernel_rfl) (by kernel_rfl) (by kernel_rfl) (fun _ _ _ h => h) (Or.inl ⟨by rfl, ?_⟩) (by assumption) ?_; rotate_left 1; (focus (intro w' hSw; (try dsimp only at hSw); go_simp; (try with_reducible rfl); done)); try simp only [Act.put, List.setIfInBounds_toArray, List.set_cons_zero, List.set_cons_succ, List.getElem_toArray, List.getElem_cons_zero, List.getElem_cons_succ])
              (refine wpAnyH_take (i := 21) (v := ?_) rfl (by kernel_rfl) (by kernel_rfl) (by kernel_rfl) (fun _ _ _ h => h) (Or.inl ⟨by rfl, ?_⟩) (by assumption) ?_; rotate_left 1; (focus (intro w' hSw; (try dsimp only at hSw); go_simp; (try with_reducible rfl); done)); try simp only [Act.put, List.setIfInBounds_toArray, List.set_cons_zero, List.set_cons_succ, List.getElem_toArray, List.getElem_cons_zero, List.getElem_cons_succ])
              (refine wpAnyH_take (i := 22) (v := ?_) rfl (by kernel_rfl) (by kernel_rfl) (by kernel_rfl) (fun _ _ _ h => h) (Or.inl ⟨by rfl, ?_⟩) (by assumption) ?_; rotate_left 1; (focus (intro w' hSw; (try dsimp only at hSw); go_simp; (try with_reducible rfl); done)); try simp only [Act.put, List.setIfInBounds_toArray, List.set_cons_zero, List.set_cons_succ, List.getElem_toArray, List.getElem_cons_zero, List.getElem_cons_succ])
              (refine wpAnyH_take (i := 24) (v := ?_) rfl (by kernel_rfl) (by kernel_rfl) (by kernel_rfl) (fun _ _ _ h => h) (Or.inl ⟨by rfl, ?_⟩) (by assumption) ?_; rotate_left 1; (focus (intro w' hSw; (try dsimp only at hSw); go_simp; (try with_reducible rfl); done)); try simp only [Act.put, List.setIfInBounds_toArray, List.set_cons_zero, List.set_cons_succ, List.getElem_toArray, List.getElem_cons_zero, List.getElem_cons_succ])
              (refine wpAnyH_take (i := 25) (v := ?_) rfl (by kernel_rfl) (by kernel_rfl) (by kernel_rfl) (fun _ _ _ h => h) (Or.inl ⟨by rfl, ?_⟩) (by assumption) ?_; rotate_left 1; (focus (intro w' hSw; (try dsimp only at hSw); go_simp; (try with_reducible rfl); done)); try simp only [Act.put, List.setIfInBounds_toArray, List.set_cons_zero, List.set_cons_succ, List.getElem_toArray, List.getElem_cons_zero, List.getElem_cons_succ])
              (refine wpAnyH_take (i := 26) (v := ?_) rfl (by kernel_rfl) (by kernel_rfl) (by kernel_rfl) (fun _ _ _ h => h) (Or.inl ⟨by rfl, ?_⟩) (by assumption) ?_; rotate_left 1; (focus (intro w' hSw; (try dsimp only at hSw); go_simp; (try with_reducible rfl); done)); try simp only [Act.put, List.setIfInBounds_toArray, List.set_cons_zero, List.set_cons_succ, List.getElem_toArray, List.getElem_cons_zero, List.getElem_cons_succ])
              (refine wpAnyH_take (i := 27) (v := ?_) rfl (by kernel_rfl) (by kernel_rfl) (by kernel_rfl) (fun _ _ _ h => h) (Or.inl ⟨by rfl, ?_⟩) (by assumption) ?_; rotate_left 1; (focus (intro w' hSw; (try dsimp only at hSw); go_simp; (try with_reducible rfl); done)); try simp only [Act.put, List.setIfInBounds_toArray, List.set_cons_zero, List.set_cons_succ, List.getElem_toArray, List.getElem_cons_zero, List.getElem_cons_succ])
              (refine wpAnyH_take (i := 28) (v := ?_) rfl (by kernel_rfl) (by kernel_rfl) (by kernel_rfl) (fun _ _ _ h => h) (Or.inl ⟨by rfl, ?_⟩) (by assumption) ?_; rotate_left 1; (focus (intro w' hSw; (try dsimp only at hSw); go_simp; (try with_reducible rfl); done)); try simp only [Act.put, List.setIfInBounds_toArray, List.set_cons_zero, List.set_cons_succ, List.getElem_toArray, List.getElem_cons_zero, List.getElem_cons_succ])
              (refine wpAnyH_take (i := 29) (v := ?_) rfl (by kernel_rfl) (by kernel_rfl) (by kernel_rfl) (fun _ _ _ h => h) (Or.inl ⟨by rfl, ?_⟩) (by assumption) ?_; rotate_left 1; (focus (intro w' hSw; (try dsimp only at hSw); go_simp; (try with_reducible rfl); done)); try simp only [Act.put, List.setIfInBounds_toArray, List.set_cons_zero, List.set_cons_succ, List.getElem_toArray, List.getElem_cons_zero, List.getElem_cons_succ])
              (refine wpAnyH_take (i := 30) (v := ?_) rfl (by kernel_rfl) (by kernel_rfl) (by kernel_rfl) (fun _ _ _ h => h) (Or.inl ⟨by rfl, ?_⟩) (by assumption) ?_; rotate_left 1; (focus (intro w' hSw; (try dsimp only at hSw); go_simp; (try with_reducible rfl); done)); try simp only [Act.put, List.setIfInBounds_toArray, List.set_cons_zero, List.set_cons_succ, List.getElem_toArray, List.getElem_cons_zero, List.getElem_cons_succ])
              (refine wpAnyH_take (i := 31) (v := ?_) rfl (by kernel_rfl) (by kernel_rfl) (by kernel_rfl) (fun _ _ _ h => h) (Or.inl ⟨by rfl, ?_⟩) (by assumption) ?_; rotate_left 1; (focus (intro w' hSw; (try dsimp only at hSw); go_simp; (try with_reducible rfl); done)); try simp only [Act.put, List.setIfInBounds_toArray, List.set_cons_zero, List.set_cons_succ, List.getElem_toArray, List.getElem_cons_zero, List.getElem_cons_succ])
              (refine wpAnyH_take (i := 32) (v := ?_) rfl (by kernel_rfl) (by kernel_rfl) (by kernel_rfl) (fun _ _ _ h => h) (Or.inl ⟨by rfl, ?_⟩) (by assumption) ?_; rotate_left 1; (focus (intro w' hSw; (try dsimp only at hSw); go_simp; (try with_reducible rfl); done)); try simp only [Act.put, List.setIfInBounds_toArray, List.set_cons_zero, List.set_cons_succ, List.getElem_toArray, List.getElem_cons_zero, List.getElem_cons_succ])
              (refine wpAnyH_take (i := 33) (v := ?_) rfl (by kernel_rfl) (by kernel_rfl) (by kernel_rfl) (fun _ _ _ h => h) (Or.inl ⟨by rfl, ?_⟩) (by assumption) ?_; rotate_left 1; (focus (intro w' hSw; (try dsimp only at hSw); go_simp; (try with_reducible rfl); done)); try simp only [Act.put, List.setIfInBounds_toArray, List.set_cons_zero, List.set_cons_succ, List.getElem_toArray, List.getElem_cons_zero, List.getElem_cons_succ])
              refine wpAnyH_ready (rs := [23]) (by kernel_rfl) (by simp) ?_
              refine AllReadyH.cons rfl (fun K hK => ?_) AllReadyH.nil
              go_simp
              refine (devHas_any A5 c5 G _ (HG13.out.next HY2.out) p0 p1 p2 HVG.out (by have := HLN.out; omega) (fun x hx => by have := HLS.out x hx; omega)).mono ?_
              rintro e y3 ⟨q, rfl, hq, hb3⟩
              obtain rfl : q = qh := bool_eq hq HQH.out
              have HY3 := Lib.hid (HY2.out.trans (hb3.mono HY2.out.size))
              clear hq hb3
              go_wp2_with fail
              refine hK.out _ _ ⟨(HY3.out.cell (p := ⟨bx, 0, none⟩) l14).trans x0, (HY3.out.cell (p := ⟨bx, 1, none⟩) l14).trans x1, (HY3.out.cell (p := ⟨bx, 2, none⟩) l14).trans x2⟩ (fun hHeld2 => ?_)
              clear hK K hHeld
              try simp only [Act.put, List.setIfInBounds_toArray, List.set_cons_zero, List.set_cons_succ, List.getElem_toArray, List.getElem_cons_zero, List.getElem_cons_succ]
              have hHeld := hHeld2
              clear hHeld2
              refine wpAnyH_ready (rs := [34]) (by kernel_rfl) (by simp) ?_
              refine AllReadyH.cons rfl (fun K hK => ?_) AllReadyH.nil
              go_simp
              refine (has18_any A5 c5 G p0 p1 p2 _ (HG13.out.next HY3.out)).mono ?_
              rintro e y4 ⟨q9, rfl, hq, hb4⟩
              obtain rfl : q9 = q := bool_eq hq HQH.out
              have HY4 := Lib.hid (HY3.out.trans (hb4.mono HY3.out.size))
              clear hq hb4
              go_wp2_with fail
              refine hK.out _ _ ⟨(HY4.out.cell (p := ⟨bx, 0, none⟩) l14).trans x0, (HY4.out.cell (p := ⟨bx, 1, none⟩) l14).trans x1, (HY4.out.cell (p := ⟨bx, 2, none⟩) l14).trans x2⟩ (fun hHeld2 => ?_)
              clear hK K hHeld
              try simp only [Act.put, List.setIfInBounds_toArray, List.set_cons_zero, List.set_cons_succ, List.getElem_toArray, List.getElem_cons_zero, List.getElem_cons_succ]
              have hHeld := hHeld2
              clear hHeld2
              (refine wpAnyH_take (i := 35) (v := ?_) rfl (by kernel_rfl) (by kernel_rfl) (by kernel_rfl) (fun _ _ _ h => h) (Or.inl ⟨by rfl, ?_⟩) (by assumption) ?_; rotate_left 1; (focus (intro w' hSw; (try dsimp only at hSw); go_simp; (try with_reducible rfl); done)); try simp only [Act.put, List.setIfInBounds_toArray, List.set_cons_zero, List.set_cons_succ, List.getElem_toArray, List.getElem_cons_zero, List.getElem_cons_succ])
              (refine wpAnyH_take (i := 36) (v := ?_) rfl (by kernel_rfl) (by kernel_rfl) (by kernel_rfl) (fun _ _ _ h => h) (Or.inl ⟨by rfl, ?_⟩) (by assumption) ?_; rotate_left 1; (focus (intro w' hSw; (try dsimp only at hSw); go_simp; (try with_reducible rfl); done)); try simp only [Act.put, List.setIfInBounds_toArray, List.set_cons_zero, List.set_cons_succ, List.getElem_toArray, List.getElem_cons_zero, List.getElem_cons_succ])
              (refine wpAnyH_take (i := 37) (v := ?_) rfl (by kernel_rfl) (by kernel_rfl) (by kernel_rfl) (fun _ _ _ h => h) (Or.inl ⟨by rfl, ?_⟩) (by assumption) ?_; rotate_left 1; (focus (intro w' hSw; (try dsimp only at hSw); go_simp; (try with_reducible rfl); done)); try simp only [Act.put, List.setIfInBounds_toArray, List.set_cons_zero, List.set_cons_succ, List.getElem_toArray, List.getElem_cons_zero, List.getElem_cons_succ])
              refine wpAnyH_done (by kernel_rfl) ?_ _
              go_wp2_with fail
              exact ⟨⟨u + 1, HUL.out, by go_num, HBE.out.drew.trans (HY4.out.mono HBE.out.size)⟩, by have := HUL.out; simp [intOf]; omega⟩
          · have hul2 : ¬ (u : Int) < 3 := by omega
            go_wp2_with fail
            exact ⟨⟨t + 1, by omega, by go_num, HBW.out.trans ((HBY.out.trans (HBQ.out.mono HBY.out.size)).mono HBW.out.size)⟩, by simp [intOf]; omega⟩
      · have hlt2 : ¬ (t : Int) < 3 := by omega
        go_wp2_with fail
        refine (awake18_any wr).mono ?_
        rintro e W1 ⟨rfl, hb1⟩
        have HB1 := Lib.hid (below_next HBW.out (Nat.le_refl _) hb1)
        clear hb1
        go_wp2_with fail
        go_ret
        exact ⟨rfl, HBT.out.trans (HB1.out.mono HBT.out.size)⟩
end Go.Proofs.Ytkjmokaahpkahaa
