/-
  The walk of NotationParses. (Made by mknparses-s13.py.)
-/
import Derived.Test.YtodnicaidmilkaaDoorNBack
import Derived.Test.YtodnicaidmilkaaDoorNPrs
namespace Go.Proofs.YtodnicaidmilkaaDoor
open Go.RowKit
set_option maxRecDepth 100000
set_option linter.unusedVariables false

/-- A row of fifteen strings. -/
def Strs (W : World) (g : Nat) : Prop := ∀ j, j < 15 → ∃ s : ByteArray, W.cell? ⟨g, j, none⟩ = some (.string s) ∧ s.size ≤ 9223372036854775807
theorem strs_mk {W : World} {g : Nat} {Q : List ByteArray} (h : Blk W g 9 (Q.map fun s => Value.string s).toArray) (hl : Q.length = 15) (hs : ∀ s ∈ Q, s.size ≤ 9223372036854775807) : Strs W g := fun j hj => by
  have hq : j < Q.length := by omega
  refine ⟨Q[j], ?_, hs _ (List.getElem_mem _)⟩
  rw [h.cell j]
  simp [hq]
theorem Strs.next {W W' : World} {g : Nat} (h : Strs W g) (hg : g < W.heap.size) (hb : Below W.heap.size W W') : Strs W' g := fun j hj => by
  obtain ⟨s, h1, h2⟩ := h j hj
  exact ⟨s, (hb.cell (p := ⟨g, j, none⟩) hg).trans h1, h2⟩
theorem prt_short (s : ByteArray) (R : List Rl) (f : Int) : (prtL s R f).length ≤ 1024 := by
  by_cases h : prtE s R f = 0
  · obtain ⟨S, _, _, _, _, hp, _⟩ := print_back h
    exact prs_short hp
  · unfold prtE at h
    unfold prtL
    split at h
    · rename_i h1
      rw [if_pos h1]
      split at h
      · exact absurd rfl h
      · simp
    · rename_i h1
      rw [if_neg h1]
      simp
theorem prt_byt (s : ByteArray) (R : List Rl) (f : Int) : Byt (prtL s R f) := by
  by_cases h : prtE s R f = 0
  · obtain ⟨S, _, _, _, _, _, hb, _⟩ := print_back h
    exact hb
  · unfold prtE at h
    unfold prtL
    split at h
    · rename_i h1
      rw [if_pos h1]
      split at h
      · exact absurd rfl h
      · exact fun c hc => by simp at hc
    · rename_i h1
      rw [if_neg h1]
      exact fun c hc => by simp at hc
/-- What Parse leaves, and the reference's: the same configuration. -/
def PrsX (L : List Nat) (w : World) (s : ByteArray) (R : List Rl) (f E : Int) (e : Ending) (w' : World) : Prop := ∃ (A : Option Addr) (c : Nat), e = .returned (.tuple #[.agg #[.string s, .slice A R.length c, .int .i64 f], .int .i64 E]) ∧ RArr w' (Lt w'.heap.size) A c R ∧ Below w.heap.size w w'
theorem prs_same (L : List Nat) : ∃ (s : ByteArray) (R : List Rl) (f E : Int), ∀ w e w', PrsOf L w e w' → PrsX L w s R f E e w' := by
  by_cases h : prsE L = 0
  · rcases ht : textP L with _ | ⟨nm, f, R⟩
    · exact ⟨⟨#[]⟩, [], 0, 0, fun w e w' hp => by
        rcases hp with ⟨⟨h1, _⟩ | ⟨_, nm, f, R, A, c, h1, _⟩, _⟩
        · exact absurd h h1
        · rw [ht] at h1; cases h1⟩
    · refine ⟨tx nm, mkR R, f, 0, fun w e w' hp => ?_⟩
      rcases hp with ⟨⟨h1, _⟩ | ⟨_, nm', f', R', A, c, h1, rfl, h2⟩, h3⟩
      · exact absurd h h1
      · rw [ht] at h1
        injection h1 with h1
        injection h1 with e1 h1
        injection h1 with e2 e3
        subst e1 e2 e3
        exact ⟨A, c, rfl, h2.own, h3⟩
  · refine ⟨⟨#[]⟩, [], 0, prsE L, fun w e w' hp => ?_⟩
    rcases hp with ⟨⟨_, rfl⟩ | ⟨h1, _⟩, h3⟩
    · exact ⟨none, 0, rfl, RArr.nil _ _, h3⟩
    · exact absurd h1 h
set_option maxHeartbeats 16000000 in
theorem walkParses (s0 : ByteArray) (Al : Option Addr) (nl cl : Nat) (a2 a3 : Int) (w : World) (hS0 : s0.size ≤ maxLen) (hL : ListP w w.heap.size Al nl cl) (l2 : -9223372036854775808 ≤ a2) (u2 : a2 ≤ 9223372036854775807) (l3 : -9223372036854775808 ≤ a3) (u3 : a3 ≤ 9223372036854775807) (hT : P10 w) :
    Calls Tryd.prog 4 #[.string s0, .slice Al nl cl, .int .i64 a2, .int .i64 a3] w fun e w' => e = .returned (.bool true) ∧ Below w.heap.size w w' := by
  have HL := Lib.hid hL
  have HT := Lib.hid hT
  have aw := Lib.hid (fun W h => awake_any W h)
  simp only [maxLen] at hS0
  clear hL hT
  by_cases g1 : (1200 : Int) < s0.size
  · go_enter Tryd.func4, Tryd.ntmps4
    go_wp2_with fail
    refine (aw.out _ HT.out).mono ?_
    rintro e V3 ⟨rfl, hb3⟩
    have HB3 := Lib.hid hb3
    clear hb3
    go_wp2
    go_ret
    exact ⟨rfl, HB3.out⟩
  · go_enter Tryd.func4, Tryd.ntmps4
    go_wp2_with fail
    refine (deck_any Al nl cl w HL.out).mono ?_
    rintro e U2 ⟨rfl, hd, hb, hz⟩
    have HDK := Lib.hid hd
    have HBU2 := Lib.hid hb
    clear hd hb
    go_wp2_with fail
    refine (cfg_any w.heap.size U2 HDK.out).mono ?_
    rintro e U3 ⟨s, A, c, R, f, rfl, hra, hwf, hs, hc, hG⟩
    have HBU3 := Lib.hid (below_turn13 HBU2.out hG (Nat.le_refl _))
    have hpr := Lib.hid (refPrint_any s A c R f U3 hra.lt hwf (by omega))
    have hTs := prt_short s R f
    have hTb := prt_byt s R f
    clear hra hwf hG hc
    go_wp2_with fail
    refine hpr.out.mono ?_
    rintro e U4 ⟨rfl, hb4⟩
    have HB4 := Lib.hid (below_step HBU3.out HBU3.out.size hb4)
    generalize prtL s R f = TL at *
    generalize prtE s R f = TE at *
    have lN := tNil_lit
    have hq := tx_eq hTb (show Byt [] from fun c hc => by simp at hc)
    obtain ⟨qt, hqt⟩ : ∃ q, q = decide (TL = []) := ⟨_, rfl⟩
    rw [← hqt] at hq
    have HQT := Lib.hid hqt
    clear hpr hb4 HDK HBU2 HBU3 hqt
    go_upto_if 31 with fail
    go_cut [9] (fun tv wx => ∃ T : ByteArray, tv = .string T ∧ 1 ≤ T.size ∧ T.size ≤ 1024 ∧ wx = U4)
    case first =>
      rcases qt with _ | _
      rotate_left
      · clear HQT
        go_wp2_with fail
        go_meet
        exact ⟨_, rfl, by decide, by decide, rfl⟩
      · have h0 : ¬ TL = [] := of_decide_eq_false HQT.out.symm
        have hpos := List.length_pos_iff.2 h0
        have HSZ := Lib.hid (tx_size TL)
        clear h0 HQT
        go_wp2_with fail
        go_meet
        exact ⟨_, rfl, by rw [HSZ.out]; omega, by rw [HSZ.out]; omega, rfl⟩
    case rest =>
      obtain ⟨T, rfl, hT1, hT2, hwc⟩ := hcut
      rw [hwc]
      clear hwc hq hTs hTb
      obtain ⟨n, sT⟩ : ∃ n, T.size = n := ⟨_, rfl⟩
      rw [sT] at hT1 hT2
      obtain ⟨k, hk⟩ := Int.eq_ofNat_of_zero_le (Int.emod_nonneg a2 (show (n : Int) ≠ 0 by omega))
      have hkl : k < n := by have := Int.emod_lt_of_pos a2 (show 0 < (n : Int) by omega); omega
      obtain ⟨m, hm⟩ := Int.eq_ofNat_of_zero_le (Int.emod_nonneg a3 (show (24 : Int) ≠ 0 by decide))
      have hml : m < 24 := by have := Int.emod_lt_of_pos a3 (show (0 : Int) < 24 by decide); omega
      have md1 := fun W => mod_any a2 n (by omega) (by omega) l2 u2 W
      have md2 := fun W => mod_any a3 24 (by decide) (by decide) l3 u3 W
      rw [hk] at md1
      rw [hm] at md2
      obtain ⟨d, hd⟩ := gt_of (l := ch13) (j := m) (by exact hml)
      obtain ⟨hi, hz'⟩ := tx_byte ch_byt hd
      have hd256 : d < 256 := ch_byt d (List.mem_iff_getElem?.2 ⟨m, hd⟩)
      have i2 : 0 ≤ (m : Int) ∧ (m : Int) < 24 := by omega
      have lC := ch_lit
      have sC : (tx ch13).size = 24 := tx_size _
      have hcv := tx_back (U4.alloc (.cells #[.int .u8 (d : Int)] 5)) ⟨U4.heap.size, 0, none⟩ 1 1 [d] rfl (fun c hc => by simp at hc; omega) (fun j c hj => by
        have : j = 0 := by
          have := (List.getElem?_eq_some_iff.1 hj).1
          simp at this
          omega
        subst this
        injection hj with hj
        subst hj
        exact (Blk.new U4 5 #[.int .u8 (d : Int)]).cell 0)
      obtain ⟨C, hC⟩ : ∃ C, C = tx [d] := ⟨_, rfl⟩
      have sC1 : C.size = 1 := by rw [hC]; exact tx_size _
      rw [← hC] at hcv
      clear hk hm hd hC
      go_wp2_with fail
      refine (md1 _).mono ?_
      rintro e w' ⟨rfl, rfl⟩
      clear md1
      go_wp2_with fail
      refine (md2 _).mono ?_
      rintro e w' ⟨rfl, rfl⟩
      clear md2
      go_upto_region 8 with fail
      obtain ⟨U6, hU6⟩ : ∃ W, W = U4.alloc (.cells #[.int .u8 (d : Int)] 5) := ⟨_, rfl⟩
      rw [← hU6]
      have HB6 : Hid (Below w.heap.size w U6) := Lib.hid (by rw [hU6]; exact HB4.out.alloc HB4.out.size _)
      clear hU6 hcv hz' hi i2 lC sC lN
      obtain ⟨k1, hk1⟩ : ∃ k1, k1 = k + 1 := ⟨_, rfl⟩
      have hw1 : IntKind.i64.wrap ((k : Int) + 1) = (k1 : Int) := by rw [IntWalk.i64_in _ (by omega)]; omega
      have j1 : 0 ≤ (k : Int) ∧ (k : Int) ≤ n := by omega
      have j2 : 0 ≤ (k1 : Int) ∧ (k1 : Int) ≤ n := by omega
      have j3 : (k : Int) ≤ n := by omega
      have j4 : (k1 : Int) ≤ n := by omega
      obtain ⟨TA, e1⟩ : ∃ X, T.extract 0 k = X := ⟨_, rfl⟩
      obtain ⟨TB, e2⟩ : ∃ X, T.extract k n = X := ⟨_, rfl⟩
      obtain ⟨TC, e3⟩ : ∃ X, T.extract k1 n = X := ⟨_, rfl⟩
      have za : TA.size ≤ 1024 := by rw [← e1, ByteArray.size_extract]; omega
      have zb : TB.size ≤ 1024 := by rw [← e2, ByteArray.size_extract]; omega
      have zc : TC.size ≤ 1024 := by rw [← e3, ByteArray.size_extract]; omega
      obtain ⟨na, sA⟩ : ∃ n, TA.size = n := ⟨_, rfl⟩
      obtain ⟨nb, sB⟩ : ∃ n, TB.size = n := ⟨_, rfl⟩
      obtain ⟨nc, sCC⟩ : ∃ n, TC.size = n := ⟨_, rfl⟩
      rw [sA] at za
      rw [sB] at zb
      rw [sCC] at zc
      obtain ⟨X1, e4⟩ : ∃ X, TA ++ C = X := ⟨_, rfl⟩
      have s4 : X1.size = na + 1 := by rw [← e4, ByteArray.size_append, sA, sC1]
      obtain ⟨X2, e5⟩ : ∃ X, X1 ++ TB = X := ⟨_, rfl⟩
      have s5 : X2.size = na + 1 + nb := by rw [← e5, ByteArray.size_append, s4, sB]
      obtain ⟨X3, e6⟩ : ∃ X, X1 ++ TC = X := ⟨_, rfl⟩
      have s6 : X3.size = na + 1 + nc := by rw [← e6, ByteArray.size_append, s4, sCC]
      obtain ⟨X4, e7⟩ : ∃ X, TA ++ TC = X := ⟨_, rfl⟩
      have s7 : X4.size = na + nc := by rw [← e7, ByteArray.size_append, sA, sCC]
      obtain ⟨X5, e8⟩ : ∃ X, T ++ ({ data := #[44, 32] } : ByteArray) = X := ⟨_, rfl⟩
      have s8 : X5.size = n + 2 := by rw [← e8, ByteArray.size_append, sT]; rfl
      obtain ⟨X6, e9⟩ : ∃ X, X5 ++ T = X := ⟨_, rfl⟩
      have s9 : X6.size = n + 2 + n := by rw [← e9, ByteArray.size_append, s8, sT]
      obtain ⟨X7, e10⟩ : ∃ X, T ++ ({ data := #[32] } : ByteArray) = X := ⟨_, rfl⟩
      have s10 : X7.size = n + 1 := by rw [← e10, ByteArray.size_append, sT]; rfl
      have q1 : ¬ 9223372036854775807 < na + 1 := by omega
      have q2 : ¬ 9223372036854775807 < na + 1 + nb := by omega
      have q3 : ¬ 9223372036854775807 < na + 1 + nc := by omega
      have q4 : ¬ 9223372036854775807 < na + nc := by omega
      have q5 : ¬ 9223372036854775807 < n + 2 := by omega
      have q6 : ¬ 9223372036854775807 < n + 2 + n := by omega
      have q7 : ¬ 9223372036854775807 < n + 1 := by omega
      clear hk1
      refine wp_region_held_drew (S := (fun w' => True)) (by kernel_rfl) ?_ (fun hHeld => ?_)
      · exact trivial
      (refine wpAnyH_take (i := 0) (v := ?_) rfl (by kernel_rfl) (by kernel_rfl) (by kernel_rfl) (fun _ _ _ h => h) (Or.inl ⟨by rfl, ?_⟩) (by assumption) ?_; rotate_left 1; (focus (intro w' hSw; (try dsimp only at hSw); go_simp; (try with_reducible rfl); done)); try simp only [Act.put, List.setIfInBounds_toArray, List.set_cons_zero, List.set_cons_succ, List.getElem_toArray, List.getElem_cons_zero])
      (refine wpAnyH_take (i := 1) (v := ?_) rfl (by kernel_rfl) (by kernel_rfl) (by kernel_rfl) (fun _ _ _ h => h) (Or.inl ⟨by rfl, ?_⟩) (by assumption) ?_; rotate_left 1; (focus (intro w' hSw; (try dsimp only at hSw); go_simp; (try with_reducible rfl); done)); try simp only [Act.put, List.setIfInBounds_toArray, List.set_cons_zero, List.set_cons_succ, List.getElem_toArray, List.getElem_cons_zero, List.getElem_cons_succ])
      (refine wpAnyH_take (i := 2) (v := ?_) rfl (by kernel_rfl) (by kernel_rfl) (by kernel_rfl) (fun _ _ _ h => h) (Or.inl ⟨by rfl, ?_⟩) (by assumption) ?_; rotate_left 1; (focus (intro w' hSw; (try dsimp only at hSw); go_simp; (try with_reducible rfl); done)); try simp only [Act.put, List.setIfInBounds_toArray, List.set_cons_zero, List.set_cons_succ, List.getElem_toArray, List.getElem_cons_zero, List.getElem_cons_succ])
      (refine wpAnyH_take (i := 3) (v := ?_) rfl (by kernel_rfl) (by kernel_rfl) (by kernel_rfl) (fun _ _ _ h => h) (Or.inl ⟨by rfl, ?_⟩) (by assumption) ?_; rotate_left 1; (focus (intro w' hSw; (try dsimp only at hSw); go_simp; (try with_reducible rfl); done)); try simp only [Act.put, List.setIfInBounds_toArray, List.set_cons_zero, List.set_cons_succ, List.getElem_toArray, List.getElem_cons_zero, List.getElem_cons_succ])
      (refine wpAnyH_take (i := 4) (v := ?_) rfl (by kernel_rfl) (by kernel_rfl) (by kernel_rfl) (fun _ _ _ h => h) (Or.inl ⟨by rfl, ?_⟩) (by assumption) ?_; rotate_left 1; (focus (intro w' hSw; (try dsimp only at hSw); go_simp; (try with_reducible rfl); done)); try simp only [Act.put, List.setIfInBounds_toArray, List.set_cons_zero, List.set_cons_succ, List.getElem_toArray, List.getElem_cons_zero, List.getElem_cons_succ])
      (refine wpAnyH_take (i := 5) (v := ?_) rfl (by kernel_rfl) (by kernel_rfl) (by kernel_rfl) (fun _ _ _ h => h) (Or.inl ⟨by rfl, ?_⟩) (by assumption) ?_; rotate_left 1; (focus (intro w' hSw; (try dsimp only at hSw); go_simp; (try with_reducible rfl); done)); try simp only [Act.put, List.setIfInBounds_toArray, List.set_cons_zero, List.set_cons_succ, List.getElem_toArray, List.getElem_cons_zero, List.getElem_cons_succ])
      (refine wpAnyH_take (i := 6) (v := ?_) rfl (by kernel_rfl) (by kernel_rfl) (by kernel_rfl) (fun _ _ _ h => h) (Or.inl ⟨by rfl, ?_⟩) (by assumption) ?_; rotate_left 1; (focus (intro w' hSw; (try dsimp only at hSw); go_simp; (try with_reducible rfl); done)); try simp only [Act.put, List.setIfInBounds_toArray, List.set_cons_zero, List.set_cons_succ, List.getElem_toArray, List.getElem_cons_zero, List.getElem_cons_succ])
      (refine wpAnyH_take (i := 7) (v := ?_) rfl (by kernel_rfl) (by kernel_rfl) (by kernel_rfl) (fun _ _ _ h => h) (Or.inl ⟨by rfl, ?_⟩) (by assumption) ?_; rotate_left 1; (focus (intro w' hSw; (try dsimp only at hSw); go_simp; (try with_reducible rfl); done)); try simp only [Act.put, List.setIfInBounds_toArray, List.set_cons_zero, List.set_cons_succ, List.getElem_toArray, List.getElem_cons_zero, List.getElem_cons_succ])
      (refine wpAnyH_take (i := 8) (v := ?_) rfl (by kernel_rfl) (by kernel_rfl) (by kernel_rfl) (fun _ _ _ h => h) (Or.inl ⟨by rfl, ?_⟩) (by assumption) ?_; rotate_left 1; (focus (intro w' hSw; (try dsimp only at hSw); go_simp; (try with_reducible rfl); done)); try simp only [Act.put, List.setIfInBounds_toArray, List.set_cons_zero, List.set_cons_succ, List.getElem_toArray, List.getElem_cons_zero, List.getElem_cons_succ])
      (refine wpAnyH_take (i := 9) (v := ?_) rfl (by kernel_rfl) (by kernel_rfl) (by kernel_rfl) (fun _ _ _ h => h) (Or.inl ⟨by rfl, ?_⟩) (by assumption) ?_; rotate_left 1; (focus (intro w' hSw; (try dsimp only at hSw); go_simp; (try with_reducible rfl); done)); try simp only [Act.put, List.setIfInBounds_toArray, List.set_cons_zero, List.set_cons_succ, List.getElem_toArray, List.getElem_cons_zero, List.getElem_cons_succ])
      (refine wpAnyH_take (i := 10) (v := ?_) rfl (by kernel_rfl) (by kernel_rfl) (by kernel_rfl) (fun _ _ _ h => h) (Or.inl ⟨by rfl, ?_⟩) (by assumption) ?_; rotate_left 1; (focus (intro w' hSw; (try dsimp only at hSw); go_simp; (try with_reducible rfl); done)); try simp only [Act.put, List.setIfInBounds_toArray, List.set_cons_zero, List.set_cons_succ, List.getElem_toArray, List.getElem_cons_zero, List.getElem_cons_succ])
      (refine wpAnyH_take (i := 11) (v := ?_) rfl (by kernel_rfl) (by kernel_rfl) (by kernel_rfl) (fun _ _ _ h => h) (Or.inl ⟨by rfl, ?_⟩) (by assumption) ?_; rotate_left 1; (focus (intro w' hSw; (try dsimp only at hSw); go_simp; (try with_reducible rfl); done)); try simp only [Act.put, List.setIfInBounds_toArray, List.set_cons_zero, List.set_cons_succ, List.getElem_toArray, List.getElem_cons_zero, List.getElem_cons_succ])
      (refine wpAnyH_take (i := 12) (v := ?_) rfl (by kernel_rfl) (by kernel_rfl) (by kernel_rfl) (fun _ _ _ h => h) (Or.inl ⟨by rfl, ?_⟩) (by assumption) ?_; rotate_left 1; (focus (intro w' hSw; (try dsimp only at hSw); go_simp; (try with_reducible rfl); done)); try simp only [Act.put, List.setIfInBounds_toArray, List.set_cons_zero, List.set_cons_succ, List.getElem_toArray, List.getElem_cons_zero, List.getElem_cons_succ])
      (refine wpAnyH_take (i := 13) (v := ?_) rfl (by kernel_rfl) (by kernel_rfl) (by kernel_rfl) (fun _ _ _ h => h) (Or.inl ⟨by rfl, ?_⟩) (by assumption) ?_; rotate_left 1; (focus (intro w' hSw; (try dsimp only at hSw); go_simp; (try with_reducible rfl); done)); try simp only [Act.put, List.setIfInBounds_toArray, List.set_cons_zero, List.set_cons_succ, List.getElem_toArray, List.getElem_cons_zero, List.getElem_cons_succ])
      (refine wpAnyH_take (i := 14) (v := ?_) rfl (by kernel_rfl) (by kernel_rfl) (by kernel_rfl) (fun _ _ _ h => h) (Or.inl ⟨by rfl, ?_⟩) (by assumption) ?_; rotate_left 1; (focus (intro w' hSw; (try dsimp only at hSw); go_simp; (try with_reducible rfl); done)); try simp only [Act.put, List.setIfInBounds_toArray, List.set_cons_zero, List.set_cons_succ, List.getElem_toArray, List.getElem_cons_zero, List.getElem_cons_succ])
      (refine wpAnyH_take (i := 15) (v := ?_) rfl (by kernel_rfl) (by kernel_rfl) (by kernel_rfl) (fun _ _ _ h => h) (Or.inl ⟨by rfl, ?_⟩) (by assumption) ?_; rotate_left 1; (focus (intro w' hSw; (try dsimp only at hSw); go_simp; (try with_reducible rfl); done)); try simp only [Act.put, List.setIfInBounds_toArray, List.set_cons_zero, List.set_cons_succ, List.getElem_toArray, List.getElem_cons_zero, List.getElem_cons_succ])
      (refine wpAnyH_take (i := 16) (v := ?_) rfl (by kernel_rfl) (by kernel_rfl) (by kernel_rfl) (fun _ _ _ h => h) (Or.inl ⟨by rfl, ?_⟩) (by assumption) ?_; rotate_left 1; (focus (intro w' hSw; (try dsimp only at hSw); go_simp; (try with_reducible rfl); done)); try simp only [Act.put, List.setIfInBounds_toArray, List.set_cons_zero, List.set_cons_succ, List.getElem_toArray, List.getElem_cons_zero, List.getElem_cons_succ])
      (refine wpAnyH_take (i := 17) (v := ?_) rfl (by kernel_rfl) (by kernel_rfl) (by kernel_rfl) (fun _ _ _ h => h) (Or.inl ⟨by rfl, ?_⟩) (by assumption) ?_; rotate_left 1; (focus (intro w' hSw; (try dsimp only at hSw); go_simp; (try with_reducible rfl); done)); try simp only [Act.put, List.setIfInBounds_toArray, List.set_cons_zero, List.set_cons_succ, List.getElem_toArray, List.getElem_cons_zero, List.getElem_cons_succ])
      (refine wpAnyH_take (i := 18) (v := ?_) rfl (by kernel_rfl) (by kernel_rfl) (by kernel_rfl) (fun _ _ _ h => h) (Or.inl ⟨by rfl, ?_⟩) (by assumption) ?_; rotate_left 1; (focus (intro w' hSw; (try dsimp only at hSw); go_simp; (try with_reducible rfl); done)); try simp only [Act.put, List.setIfInBounds_toArray, List.set_cons_zero, List.set_cons_succ, List.getElem_toArray, List.getElem_cons_zero, List.getElem_cons_succ])
      (refine wpAnyH_take (i := 19) (v := ?_) rfl (by kernel_rfl) (by kernel_rfl) (by kernel_rfl) (fun _ _ _ h => h) (Or.inl ⟨by rfl, ?_⟩) (by assumption) ?_; rotate_left 1; (focus (intro w' hSw; (try dsimp only at hSw); go_simp; (try with_reducible rfl); done)); try simp only [Act.put, List.setIfInBounds_toArray, List.set_cons_zero, List.set_cons_succ, List.getElem_toArray, List.getElem_cons_zero, List.getElem_cons_succ])
      (refine wpAnyH_take (i := 20) (v := ?_) rfl (by kernel_rfl) (by kernel_rfl) (by kernel_rfl) (fun _ _ _ h => h) (Or.inl ⟨by rfl, ?_⟩) (by assumption) ?_; rotate_left 1; (focus (intro w' hSw; (try dsimp only at hSw); go_simp; (try with_reducible rfl); done)); try simp only [Act.put, List.setIfInBounds_toArray, List.set_cons_zero, List.set_cons_succ, List.getElem_toArray, List.getElem_cons_zero, List.getElem_cons_succ])
      (refine wpAnyH_take (i := 21) (v := ?_) rfl (by kernel_rfl) (by kernel_rfl) (by kernel_rfl) (fun _ _ _ h => h) (Or.inl ⟨by rfl, ?_⟩) (by assumption) ?_; rotate_left 1; (focus (intro w' hSw; (try dsimp only at hSw); go_simp; (try with_reducible rfl); done)); try simp only [Act.put, List.setIfInBounds_toArray, List.set_cons_zero, List.set_cons_succ, List.getElem_toArray, List.getElem_cons_zero, List.getElem_cons_succ])
      (refine wpAnyH_take (i := 22) (v := ?_) rfl (by kernel_rfl) (by kernel_rfl) (by kernel_rfl) (fun _ _ _ h => h) (Or.inl ⟨by rfl, ?_⟩) (by assumption) ?_; rotate_left 1; (focus (intro w' hSw; (try dsimp only at hSw); go_simp; (try with_reducible rfl); done)); try simp only [Act.put, List.setIfInBounds_toArray, List.set_cons_zero, List.set_cons_succ, List.getElem_toArray, List.getElem_cons_zero, List.getElem_cons_succ])
      (refine wpAnyH_take (i := 23) (v := ?_) rfl (by kernel_rfl) (by kernel_rfl) (by kernel_rfl) (fun _ _ _ h => h) (Or.inl ⟨by rfl, ?_⟩) (by assumption) ?_; rotate_left 1; (focus (intro w' hSw; (try dsimp only at hSw); go_simp; (try with_reducible rfl); done)); try simp only [Act.put, List.setIfInBounds_toArray, List.set_cons_zero, List.set_cons_succ, List.getElem_toArray, List.getElem_cons_zero, List.getElem_cons_succ])
      (refine wpAnyH_take (i := 24) (v := ?_) rfl (by kernel_rfl) (by kernel_rfl) (by kernel_rfl) (fun _ _ _ h => h) (Or.inl ⟨by rfl, ?_⟩) (by assumption) ?_; rotate_left 1; (focus (intro w' hSw; (try dsimp only at hSw); go_simp; (try with_reducible rfl); done)); try simp only [Act.put, List.setIfInBounds_toArray, List.set_cons_zero, List.set_cons_succ, List.getElem_toArray, List.getElem_cons_zero, List.getElem_cons_succ])
      (refine wpAnyH_take (i := 25) (v := ?_) rfl (by kernel_rfl) (by kernel_rfl) (by kernel_rfl) (fun _ _ _ h => h) (Or.inl ⟨by rfl, ?_⟩) (by assumption) ?_; rotate_left 1; (focus (intro w' hSw; (try dsimp only at hSw); go_simp; (try with_reducible rfl); done)); try simp only [Act.put, List.setIfInBounds_toArray, List.set_cons_zero, List.set_cons_succ, List.getElem_toArray, List.getElem_cons_zero, List.getElem_cons_succ])
      (refine wpAnyH_take (i := 26) (v := ?_) rfl (by kernel_rfl) (by kernel_rfl) (by kernel_rfl) (fun _ _ _ h => h) (Or.inl ⟨by rfl, ?_⟩) (by assumption) ?_; rotate_left 1; (focus (intro w' hSw; (try dsimp only at hSw); go_simp; (try with_reducible rfl); done)); try simp only [Act.put, List.setIfInBounds_toArray, List.set_cons_zero, List.set_cons_succ, List.getElem_toArray, List.getElem_cons_zero, List.getElem_cons_succ])
      (refine wpAnyH_take (i := 27) (v := ?_) rfl (by kernel_rfl) (by kernel_rfl) (by kernel_rfl) (fun _ _ _ h => h) (Or.inl ⟨by rfl, ?_⟩) (by assumption) ?_; rotate_left 1; (focus (intro w' hSw; (try dsimp only at hSw); go_simp; (try with_reducible rfl); done)); try simp only [Act.put, List.setIfInBounds_toArray, List.set_cons_zero, List.set_cons_succ, List.getElem_toArray, List.getElem_cons_zero, List.getElem_cons_succ])
      (refine wpAnyH_take (i := 28) (v := ?_) rfl (by kernel_rfl) (by kernel_rfl) (by kernel_rfl) (fun _ _ _ h => h) (Or.inl ⟨by rfl, ?_⟩) (by assumption) ?_; rotate_left 1; (focus (intro w' hSw; (try dsimp only at hSw); go_simp; (try with_reducible rfl); done)); try simp only [Act.put, List.setIfInBounds_toArray, List.set_cons_zero, List.set_cons_succ, List.getElem_toArray, List.getElem_cons_zero, List.getElem_cons_succ])
      (refine wpAnyH_take (i := 29) (v := ?_) rfl (by kernel_rfl) (by kernel_rfl) (by kernel_rfl) (fun _ _ _ h => h) (Or.inl ⟨by rfl, ?_⟩) (by assumption) ?_; rotate_left 1; (focus (intro w' hSw; (try dsimp only at hSw); go_simp; (try with_reducible rfl); done)); try simp only [Act.put, List.setIfInBounds_toArray, List.set_cons_zero, List.set_cons_succ, List.getElem_toArray, List.getElem_cons_zero, List.getElem_cons_succ])
      (refine wpAnyH_take (i := 30) (v := ?_) rfl (by kernel_rfl) (by kernel_rfl) (by kernel_rfl) (fun _ _ _ h => h) (Or.inl ⟨by rfl, ?_⟩) (by assumption) ?_; rotate_left 1; (focus (intro w' hSw; (try dsimp only at hSw); go_simp; (try with_reducible rfl); done)); try simp only [Act.put, List.setIfInBounds_toArray, List.set_cons_zero, List.set_cons_succ, List.getElem_toArray, List.getElem_cons_zero, List.getElem_cons_succ])
      (refine wpAnyH_take (i := 31) (v := ?_) rfl (by kernel_rfl) (by kernel_rfl) (by kernel_rfl) (fun _ _ _ h => h) (Or.inl ⟨by rfl, ?_⟩) (by assumption) ?_; rotate_left 1; (focus (intro w' hSw; (try dsimp only at hSw); go_simp; (try with_reducible rfl); done)); try simp only [Act.put, List.setIfInBounds_toArray, List.set_cons_zero, List.set_cons_succ, List.getElem_toArray, List.getElem_cons_zero, List.getElem_cons_succ])
      (refine wpAnyH_take (i := 32) (v := ?_) rfl (by kernel_rfl) (by kernel_rfl) (by kernel_rfl) (fun _ _ _ h => h) (Or.inl ⟨by rfl, ?_⟩) (by assumption) ?_; rotate_left 1; (focus (intro w' hSw; (try dsimp only at hSw); go_simp; (try with_reducible rfl); done)); try simp only [Act.put, List.setIfInBounds_toArray, List.set_cons_zero, List.set_cons_succ, List.getElem_toArray, List.getElem_cons_zero, List.getElem_cons_succ])
      (refine wpAnyH_take (i := 33) (v := ?_) rfl (by kernel_rfl) (by kernel_rfl) (by kernel_rfl) (fun _ _ _ h => h) (Or.inl ⟨by rfl, ?_⟩) (by assumption) ?_; rotate_left 1; (focus (intro w' hSw; (try dsimp only at hSw); go_simp; (try with_reducible rfl); done)); try simp only [Act.put, List.setIfInBounds_toArray, List.set_cons_zero, List.set_cons_succ, List.getElem_toArray, List.getElem_cons_zero, List.getElem_cons_succ])
      (refine wpAnyH_take (i := 34) (v := ?_) rfl (by kernel_rfl) (by kernel_rfl) (by kernel_rfl) (fun _ _ _ h => h) (Or.inl ⟨by rfl, ?_⟩) (by assumption) ?_; rotate_left 1; (focus (intro w' hSw; (try dsimp only at hSw); go_simp; (try with_reducible rfl); done)); try simp only [Act.put, List.setIfInBounds_toArray, List.set_cons_zero, List.set_cons_succ, List.getElem_toArray, List.getElem_cons_zero, List.getElem_cons_succ])
      (refine wpAnyH_take (i := 35) (v := ?_) rfl (by kernel_rfl) (by kernel_rfl) (by kernel_rfl) (fun _ _ _ h => h) (Or.inl ⟨by rfl, ?_⟩) (by assumption) ?_; rotate_left 1; (focus (intro w' hSw; (try dsimp only at hSw); go_simp; (try with_reducible rfl); done)); try simp only [Act.put, List.setIfInBounds_toArray, List.set_cons_zero, List.set_cons_succ, List.getElem_toArray, List.getElem_cons_zero, List.getElem_cons_succ])
      (refine wpAnyH_take (i := 36) (v := ?_) rfl (by kernel_rfl) (by kernel_rfl) (by kernel_rfl) (fun _ _ _ h => h) (Or.inl ⟨by rfl, ?_⟩) (by assumption) ?_; rotate_left 1; (focus (intro w' hSw; (try dsimp only at hSw); go_simp; (try with_reducible rfl); done)); try simp only [Act.put, List.setIfInBounds_toArray, List.set_cons_zero, List.set_cons_succ, List.getElem_toArray, List.getElem_cons_zero, List.getElem_cons_succ])
      (refine wpAnyH_take (i := 37) (v := ?_) rfl (by kernel_rfl) (by kernel_rfl) (by kernel_rfl) (fun _ _ _ h => h) (Or.inl ⟨by rfl, ?_⟩) (by assumption) ?_; rotate_left 1; (focus (intro w' hSw; (try dsimp only at hSw); go_simp; (try with_reducible rfl); done)); try simp only [Act.put, List.setIfInBounds_toArray, List.set_cons_zero, List.set_cons_succ, List.getElem_toArray, List.getElem_cons_zero, List.getElem_cons_succ])
      (refine wpAnyH_take (i := 40) (v := ?_) rfl (by kernel_rfl) (by kernel_rfl) (by kernel_rfl) (fun _ _ _ h => h) (Or.inl ⟨by rfl, ?_⟩) (by assumption) ?_; rotate_left 1; (focus (intro w' hSw; (try dsimp only at hSw); go_simp; (try with_reducible rfl); done)); try simp only [Act.put, List.setIfInBounds_toArray, List.set_cons_zero, List.set_cons_succ, List.getElem_toArray, List.getElem_cons_zero, List.getElem_cons_succ])
      refine wpAnyH_ready (rs := [38]) (by kernel_rfl) (by simp) ?_
      refine AllReadyH.cons rfl (fun K hK => ?_) AllReadyH.nil
      go_simp
      obtain ⟨N3, hN3⟩ : ∃ W', W' = World.drew (World.alloc U6 (.cells #[.string s0, .string T, .string X2, .string X3, .string X4, .string TA, .string X6, .string X7, .string { data := #[97, 32, 102, 117, 108, 108, 32, 49, 58, 32, 97, 108, 108, 47, 48, 47, 48, 62, 48] }, .string { data := #[97, 32, 102, 117, 108, 108, 32, 48, 49, 58, 32, 97, 108, 108, 47, 48, 47, 48, 62, 48] }, .string { data := #[97, 32, 102, 117, 108, 108, 32, 49, 58, 32, 48, 37, 47, 48, 47, 48, 62, 48] }, .string { data := #[97, 32, 102, 117, 108, 108, 32, 49, 58, 32, 49, 48, 49, 37, 47, 48, 47, 48, 62, 48] }, .string { data := #[65, 32, 102, 117, 108, 108, 32, 49, 58, 32, 97, 108, 108, 47, 48, 47, 48, 62, 48] }, .string { data := #[97, 98, 99, 100, 101, 102, 103, 104, 105, 106, 107, 108, 109, 110, 111, 112, 113, 32, 102, 117, 108, 108, 32, 49, 58, 32, 97, 108, 108, 47, 48, 47, 48, 62, 48] }, .string { data := #[49, 32, 102, 117, 108, 108, 32, 49, 58, 32, 97, 108, 108, 47, 48, 47, 48, 62, 48] }] 9)) := ⟨_, rfl⟩
      rw [← hN3]
      have bN3 : Below U6.heap.size U6 N3 := by rw [hN3]; exact ((Below.refl _ _).alloc (Nat.le_refl _) _).drew
      have B3 : Blk N3 U6.heap.size 9 #[.string s0, .string T, .string X2, .string X3, .string X4, .string TA, .string X6, .string X7, .string { data := #[97, 32, 102, 117, 108, 108, 32, 49, 58, 32, 97, 108, 108, 47, 48, 47, 48, 62, 48] }, .string { data := #[97, 32, 102, 117, 108, 108, 32, 48, 49, 58, 32, 97, 108, 108, 47, 48, 47, 48, 62, 48] }, .string { data := #[97, 32, 102, 117, 108, 108, 32, 49, 58, 32, 48, 37, 47, 48, 47, 48, 62, 48] }, .string { data := #[97, 32, 102, 117, 108, 108, 32, 49, 58, 32, 49, 48, 49, 37, 47, 48, 47, 48, 62, 48] }, .string { data := #[65, 32, 102, 117, 108, 108, 32, 49, 58, 32, 97, 108, 108, 47, 48, 47, 48, 62, 48] }, .string { data := #[97, 98, 99, 100, 101, 102, 103, 104, 105, 106, 107, 108, 109, 110, 111, 112, 113, 32, 102, 117, 108, 108, 32, 49, 58, 32, 97, 108, 108, 47, 48, 47, 48, 62, 48] }, .string { data := #[49, 32, 102, 117, 108, 108, 32, 49, 58, 32, 97, 108, 108, 47, 48, 47, 48, 62, 48] }] := by rw [hN3]; exact Blk.new _ _ _
      have HN3 := Lib.hid hN3
      clear hN3
      refine hK.out _ _ trivial (fun hHeld2 => ?_)
      clear hK K hHeld
      have hHeld := hHeld2
      clear hHeld2
      try simp only [Act.put, List.setIfInBounds_toArray, List.set_cons_zero, List.set_cons_succ, List.getElem_toArray, List.getElem_cons_zero, List.getElem_cons_succ]
      (refine wpAnyH_take (i := 39) (v := ?_) rfl (by kernel_rfl) (by kernel_rfl) (by kernel_rfl) (fun _ _ _ h => h) (Or.inl ⟨by rfl, ?_⟩) (by assumption) ?_; rotate_left 1; (focus (intro w' hSw; (try dsimp only at hSw); go_simp; (try with_reducible rfl); done)); try simp only [Act.put, List.setIfInBounds_toArray, List.set_cons_zero, List.set_cons_succ, List.getElem_toArray, List.getElem_cons_zero, List.getElem_cons_succ])
      refine wpAnyH_done (by kernel_rfl) ?_ _
      clear hHeld
      have hall : Strs N3 U6.heap.size := strs_mk (Q := [s0, T, X2, X3, X4, TA, X6, X7, { data := #[97, 32, 102, 117, 108, 108, 32, 49, 58, 32, 97, 108, 108, 47, 48, 47, 48, 62, 48] }, { data := #[97, 32, 102, 117, 108, 108, 32, 48, 49, 58, 32, 97, 108, 108, 47, 48, 47, 48, 62, 48] }, { data := #[97, 32, 102, 117, 108, 108, 32, 49, 58, 32, 48, 37, 47, 48, 47, 48, 62, 48] }, { data := #[97, 32, 102, 117, 108, 108, 32, 49, 58, 32, 49, 48, 49, 37, 47, 48, 47, 48, 62, 48] }, { data := #[65, 32, 102, 117, 108, 108, 32, 49, 58, 32, 97, 108, 108, 47, 48, 47, 48, 62, 48] }, { data := #[97, 98, 99, 100, 101, 102, 103, 104, 105, 106, 107, 108, 109, 110, 111, 112, 113, 32, 102, 117, 108, 108, 32, 49, 58, 32, 97, 108, 108, 47, 48, 47, 48, 62, 48] }, { data := #[49, 32, 102, 117, 108, 108, 32, 49, 58, 32, 97, 108, 108, 47, 48, 47, 48, 62, 48] }]) B3 rfl (by
        intro s hs
        simp only [List.mem_cons, List.not_mem_nil, or_false] at hs
        rcases hs with rfl | rfl | rfl | rfl | rfl | rfl | rfl | rfl | rfl | rfl | rfl | rfl | rfl | rfl | rfl
        · omega
        · omega
        · omega
        · omega
        · omega
        · omega
        · omega
        · omega
        all_goals decide)
      have HF := Lib.hid hall
      have HB3 := Lib.hid (below_step HB6.out HB6.out.size bN3)
      have zg : U6.heap.size < N3.heap.size := B3.lt
      clear B3 bN3 hall HN3 e1 e2 e3 e4 e5 e6 e7 e8 e9 e10 s4 s5 s6 s7 s8 s9 s10 q1 q2 q3 q4 q5 q6 q7 sA sB sCC sC1 sT za zb zc hw1 j1 j2 j3 j4
      generalize U6.heap.size = gb at *
      go_wp2_with fail
      go_loopw [81] (fun i wr => ∃ j : Nat, j ≤ 15 ∧ i = .int .i64 j ∧ Below N3.heap.size N3 wr) (fun i _ => 15 - (intOf i).toNat)
      case atStart => exact ⟨0, by omega, rfl, Below.refl _ _⟩
      case round =>
        obtain ⟨j, hj, rfl, hbr⟩ := hrel
        have HBR := Lib.hid hbr
        by_cases hlt : j < 15
        · have hlt2 : 0 ≤ (j : Int) ∧ (j : Int) < 15 := by omega
          obtain ⟨y, k0, ysz⟩ := HF.out.next zg hbr j hlt
          have zgr : gb < wr.heap.size := Nat.lt_of_lt_of_le zg hbr.size
          obtain ⟨s1, R1, f1, E1, hsm⟩ := prs_same (txL y)
          have hp1 := Lib.hid (fun W => (parse_any (txL y) W (byt_txL y) (by rw [txL_length]; exact ysz)).mono (hsm W))
          have hp2 := Lib.hid (fun W => (refParse_any (txL y) W (byt_txL y) (by rw [txL_length]; exact ysz)).mono (hsm W))
          rw [tx_txL] at hp1 hp2
          generalize txL y = YL at *
          clear hsm hbr
          go_wp2_with fail
          refine (hp1.out _).mono ?_
          rintro e W4 ⟨A4, c4, rfl, hra4, hb4⟩
          have HB4 := Lib.hid (below_step HBR.out HBR.out.size hb4)
          obtain ⟨W5, hW5⟩ : ∃ W, W = W4.alloc (.cells #[.string s1, .slice A4 R1.length c4, .int .i64 f1] 24) := ⟨_, rfl⟩
          have hb5 : Below W4.heap.size W4 W5 := by rw [hW5]; exact (Below.refl _ _).alloc (Nat.le_refl _) _
          have BA := Lib.hid (show Blk W5 W4.heap.size 24 #[.string s1, .slice A4 R1.length c4, .int .i64 f1] by rw [hW5]; exact Blk.new _ _ _)
          have HB5 := Lib.hid (below_step HB4.out HB4.out.size hb5)
          have HR5 := Lib.hid (hra4.next hb5)
          have HW5 := Lib.hid hW5
          clear hra4 hb4 hb5 hW5 hp1
          go_upto_region 12 with fail
          rw [← HW5.out]
          go_wp2_with fail
          refine (hp2.out _).mono ?_
          rintro e W6 ⟨A6, c6, rfl, hra6, hb6⟩
          have HB6' := Lib.hid (below_step HB5.out HB5.out.size hb6)
          obtain ⟨W7, hW7⟩ : ∃ W, W = W6.alloc (.cells #[.string s1, .slice A6 R1.length c6, .int .i64 f1] 24) := ⟨_, rfl⟩
          have hb7 : Below W6.heap.size W6 W7 := by rw [hW7]; exact (Below.refl _ _).alloc (Nat.le_refl _) _
          have BB := Lib.hid (show Blk W7 W6.heap.size 24 #[.string s1, .slice A6 R1.length c6, .int .i64 f1] by rw [hW7]; exact Blk.new _ _ _)
          have BA7 := Lib.hid ((BA.out.next hb6).next hb7)
          have HB7 := Lib.hid (below_step HB6'.out HB6'.out.size hb7)
          have hsame := Lib.hid (same_yes s1 A4 A6 c4 c6 R1 f1 W7 ((HR5.out.next hb6).next hb7) (hra6.next hb7))
          have HW7 := Lib.hid hW7
          have p0 := BA7.out.cell 0
          have p1 := BA7.out.cell 1
          have p2 := BA7.out.cell 2
          have r0 := BB.out.cell 0
          have r1 := BB.out.cell 1
          have r2 := BB.out.cell 2
          simp at p0 p1 p2 r0 r1 r2
          have zy : W4.heap.size < W7.heap.size := BA7.out.lt
          clear hra6 hb6 hb7 hW7 hp2 k0
          go_upto_region 13 with fail
          rw [← HW7.out]
          go_wp2_with fail
          refine hsame.out.mono ?_
          rintro e W8 ⟨rfl, hb8⟩
          have HB8 := Lib.hid (below_step HB7.out HB7.out.size hb8)
          clear hb8 hsame p0 p1 p2 r0 r1 r2
          go_wp2_with fail
          exact ⟨⟨j + 1, by omega, by go_num, HB8.out⟩, by simp [intOf]; omega⟩
        · have hlt2 : ¬ (j : Int) < 15 := by omega
          have HB5 := Lib.hid (below_step HB3.out HB3.out.size hbr)
          have HT5 := Lib.hid (HT.out.next HB5.out)
          clear hbr
          go_wp2_with fail
          refine (aw.out _ HT5.out).mono ?_
          rintro e V3 ⟨rfl, hb3⟩
          have HB6' := Lib.hid (below_step HB5.out HB5.out.size hb3)
          clear hb3
          go_wp2
          go_ret
          exact ⟨rfl, HB6'.out⟩
end Go.Proofs.YtodnicaidmilkaaDoor
