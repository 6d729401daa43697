/-
  The walk of NotationBack.
-/
import Derived.Test.YtodnicaidmilkaaDoorNAwk
namespace Go.Proofs.YtodnicaidmilkaaDoor
open Go.RowKit
set_option maxRecDepth 100000
set_option linter.unusedVariables false

/-- A row of bytes that begins with L. -/
def BRow (w : World) (g : Nat) (L : List Nat) : Prop := ∃ (cs : Array Value) (t : TypeId) (hi : Nat), w.heap[g]? = some (.cells cs t (cs.size, hi)) ∧ ∀ (j c : Nat), L[j]? = some c → cs[j]? = some (.int .u8 c)
theorem BRow.lt {w : World} {g : Nat} {L : List Nat} (h : BRow w g L) : g < w.heap.size := by
  obtain ⟨cs, t, hi, h1, _⟩ := h
  exact (Array.getElem?_eq_some_iff.1 h1).1
theorem BRow.next {w w' : World} {g : Nat} {L : List Nat} (h : BRow w g L) (hb : Below w.heap.size w w') : BRow w' g L := by
  have hl := h.lt
  obtain ⟨cs, t, hi, h1, h2⟩ := h
  exact ⟨cs, t, hi, (hb.block g hl).trans h1, h2⟩
theorem BRow.cell {w : World} {g : Nat} {L : List Nat} (h : BRow w g L) {j c : Nat} (hc : L[j]? = some c) : w.cell? ⟨g, j, none⟩ = some (.int .u8 c) := by
  obtain ⟨cs, t, hi, h1, h2⟩ := h
  simp [World.cell?, h1, h2 j c hc]
theorem BRow.frozen {w : World} {g : Nat} {L : List Nat} (h : BRow w g L) {j : Nat} (hj : j < L.length) : w.frozen? ⟨g, j, none⟩ = false := by
  obtain ⟨cs, t, hi, h1, h2⟩ := h
  have := (Array.getElem?_eq_some_iff.1 (h2 j L[j] (List.getElem?_eq_getElem hj))).1
  simp only [World.frozen?, h1]
  rw [decide_eq_false (by omega : ¬ cs.size ≤ j)]
  rfl
theorem BRow.set {w : World} {g : Nat} {L : List Nat} (h : BRow w g L) {j : Nat} (hj : j < L.length) (d : Nat) : BRow (w.setCell ⟨g, j, none⟩ (.int .u8 (d : Int))) g (L.set j d) := by
  obtain ⟨cs, t, hi, h1, h2⟩ := h
  have hjs := (Array.getElem?_eq_some_iff.1 (h2 j L[j] (List.getElem?_eq_getElem hj))).1
  refine ⟨cs.setIfInBounds j (.int .u8 d), t, hi, ?_, fun i c hc => ?_⟩
  · simp [World.setCell, Array.getElem?_modify, h1]
  · rw [Array.getElem?_setIfInBounds]
    by_cases e : j = i
    · subst e
      rw [List.getElem?_set_self hj] at hc
      injection hc with hc
      subst hc
      rw [if_pos rfl, if_pos hjs]
    · rw [List.getElem?_set_ne e] at hc
      rw [if_neg e]
      exact h2 i c hc
theorem BRow.new (w : World) (L : List Nat) (hL : Byt L) (cp : Nat) (t : TypeId) : BRow ((w.alloc (.cells (bytesRow (tx L) cp) t ((bytesRow (tx L) cp).size, (bytesRow (tx L) cp).size + 1))).drew) w.heap.size L := by
  refine ⟨bytesRow (tx L) cp, t, (bytesRow (tx L) cp).size + 1, ?_, fun j c hc => ?_⟩
  · show (w.heap.push _)[w.heap.size]? = _
    simp
  · obtain ⟨hi, hz⟩ := tx_byte hL hc
    have e := bytesRow_at (tx L) cp j hi
    have e2 : (tx L).data[j].toNat = c := hz
    rw [e2] at e
    exact e
theorem below_turn13 {w w1 w2 : World} {dk : Nat} (hb : Below w.heap.size w w1) (hg : w1.grownBy w2 (some dk)) (h : w.heap.size ≤ dk) : Below w.heap.size w w2 := hb.trans (turn_under hg h hb.size)
/-- The bytes that a law puts into texts. -/
def ch13 : List Nat := [32, 97, 108, 108, 47, 62, 37, 48, 49, 50, 51, 52, 53, 54, 55, 56, 57, 45, 97, 98, 102, 117, 58, 44]
theorem ch_lit : ({ data := #[32, 97, 108, 108, 47, 62, 37, 48, 49, 50, 51, 52, 53, 54, 55, 56, 57, 45, 97, 98, 102, 117, 58, 44] } : ByteArray) = tx ch13 := by decide
theorem ch_byt : Byt ch13 := by unfold Byt; decide
theorem prt_cases {s : ByteArray} {R : List Rl} {f : Int} (h : chk s R f = 0) : prtE s R f = 0 ∨ prtE s R f = 6 := by
  unfold prtE
  rw [if_pos h]
  cases prR R
  · exact .inr rfl
  · exact .inl rfl
theorem prs_short {L : List Nat} (h : prsE L = 0) : L.length ≤ 1024 := by
  unfold prsE at h
  split at h
  · cases h
  · omega

set_option maxHeartbeats 16000000 in
theorem walkBack (Al : Option Addr) (nl cl : Nat) (a1 a2 : Int) (w : World) (hL : ListP w w.heap.size Al nl cl) (l1 : -9223372036854775808 ≤ a1) (u1 : a1 ≤ 9223372036854775807) (l2 : -9223372036854775808 ≤ a2) (u2 : a2 ≤ 9223372036854775807) (hT : P10 w) :
    Calls Tryd.prog 5 #[.slice Al nl cl, .int .i64 a1, .int .i64 a2] w fun e w' => e = .returned (.bool true) ∧ Below w.heap.size w w' := by
  have HL := Lib.hid hL
  have HT := Lib.hid hT
  clear hL hT
  go_enter Tryd.func5, Tryd.ntmps5
  go_wp2_with fail
  refine (deck_any Al nl cl w HL.out).mono ?_
  rintro e U2 ⟨rfl, hd, hb, hz⟩
  have HDK := Lib.hid hd
  have HBU2 := Lib.hid hb
  clear hd hb
  go_wp2_with fail
  refine (cfg_any w.heap.size U2 HDK.out).mono ?_
  rintro e U3 ⟨s, A, c, R, f, rfl, hra, hwf, hs, hc, hG⟩
  have HBU3 := Lib.hid (below_turn13 HBU2.out hG (Nat.le_refl _))
  obtain ⟨V, hV⟩ : ∃ V, V = U3.alloc (.cells #[.string s, .slice A R.length c, .int .i64 f] 24) := ⟨_, rfl⟩
  have hbv : Below U3.heap.size U3 V := by rw [hV]; exact (Below.refl _ _).alloc (Nat.le_refl _) _
  have BY := Lib.hid (show Blk V U3.heap.size 24 #[.string s, .slice A R.length c, .int .i64 f] by rw [hV]; exact Blk.new _ _ _)
  have HBV := Lib.hid (below_step HBU3.out HBU3.out.size hbv)
  have HRA := Lib.hid (hra.lt.next hbv)
  have HWF := Lib.hid hwf
  have HC := Lib.hid hc
  have HTV := Lib.hid (HT.out.next HBV.out)
  have HV := Lib.hid hV
  have hpr := Lib.hid (print_any s A c R f V HRA.out hwf HTV.out)
  clear hV hbv hra hwf hG hc
  go_wp2_with fail
  rw [← HV.out]
  go_wp2_with fail
  refine hpr.out.mono ?_
  rintro e W1 ⟨he, hb1⟩
  have HB1 := Lib.hid (below_step HBV.out HBV.out.size hb1)
  have HT1 := Lib.hid (HTV.out.next hb1)
  have HRA1 := Lib.hid (HRA.out.next hb1)
  have BY1 := Lib.hid (BY.out.next hb1)
  clear hb1 hpr
  rcases prt_cases HC.out with h0 | h6
  · obtain ⟨S, hc0, hpl, htp, hmk, hps, hbt, hpos⟩ := print_back h0
    obtain ⟨f0, _⟩ := full_bounds hc0
    rw [h0] at he
    subst he
    obtain ⟨L, hLe⟩ : ∃ L, L = prtL s R f := ⟨_, rfl⟩
    rw [← hLe] at htp hps hbt hpos ⊢
    have hl := prs_short hps
    have hpa := Lib.hid (parse_any L W1 hbt (by omega))
    have sL := tx_size L
    have HTP := Lib.hid htp
    have HPS := Lib.hid hps
    have HBT := Lib.hid hbt
    have HMK := Lib.hid hmk
    have HF0 := Lib.hid f0
    clear hpl htp hmk hps hbt h0 hc0 hLe f0
    go_wp2_with fail
    refine hpa.out.mono ?_
    rintro e W2 ⟨hp, hb2⟩
    have HB2 := Lib.hid (below_step HB1.out HB1.out.size hb2)
    have HT2 := Lib.hid (HT1.out.next hb2)
    have HRA2 := Lib.hid (HRA1.out.next hb2)
    have BY2 := Lib.hid (BY1.out.next hb2)
    clear hb2 hpa
    rcases hp with ⟨hne, _⟩ | ⟨_, nm, f', R', A', c', hx, rfl, hra'⟩
    · exact absurd HPS.out hne
    · rw [HTP.out] at hx
      injection hx with hx
      injection hx with e1 hx
      injection hx with e2 e3
      subst e1 e2 e3
      rw [HMK.out, tx_txL, Int.toNat_of_nonneg HF0.out]
      rw [HMK.out] at hra'
      have HRB := Lib.hid hra'.own
      obtain ⟨W3, hW3⟩ : ∃ W, W = W2.alloc (.cells #[.string s, .slice A' R.length c', .int .i64 f] 24) := ⟨_, rfl⟩
      have hb3 : Below W2.heap.size W2 W3 := by rw [hW3]; exact (Below.refl _ _).alloc (Nat.le_refl _) _
      have BZ := Lib.hid (show Blk W3 W2.heap.size 24 #[.string s, .slice A' R.length c', .int .i64 f] by rw [hW3]; exact Blk.new _ _ _)
      have HB3 := Lib.hid (below_step HB2.out HB2.out.size hb3)
      have HT3 := Lib.hid (HT2.out.next hb3)
      have BY3 := Lib.hid (BY2.out.next hb3)
      have hsm := Lib.hid (same_yes s A A' c c' R f W3 (HRA2.out.next hb3) (HRB.out.next hb3))
      have HW3 := Lib.hid hW3
      have p0 := BY3.out.cell 0
      have p1 := BY3.out.cell 1
      have p2 := BY3.out.cell 2
      have q0 := BZ.out.cell 0
      have q1 := BZ.out.cell 1
      have q2 := BZ.out.cell 2
      simp at p0 p1 p2 q0 q1 q2
      have hl0 : ((L.length : Int) == 0) = false := by rw [beq_eq_false_iff_ne]; omega
      have zy : U3.heap.size < W3.heap.size := BY3.out.lt
      clear hra' hb3 hW3
      go_upto_region 6 with fail
      rw [← HW3.out]
      go_wp2_with fail
      refine hsm.out.mono ?_
      rintro e W4 ⟨rfl, hb4⟩
      have HB4 := Lib.hid (below_step HB3.out HB3.out.size hb4)
      have HT4 := Lib.hid (HT3.out.next hb4)
      have hcv := fun W => run_bytes_of_string (P := Tryd.prog) W 9 36 5 (tx L) Tryd.underlying9 Tryd.underlying36 Tryd.underlying5
      rw [sL] at hcv
      clear hsm hb4 p0 p1 p2 q0 q1 q2
      go_upto_region 9 with fail
      obtain ⟨cp, hcp⟩ : ∃ cp, cp = grownCap W4 L.length 0 5 := ⟨_, rfl⟩
      rw [← hcp]
      obtain ⟨X, hX⟩ : ∃ X, X = World.drew (World.alloc W4 (Obj.cells (bytesRow (tx L) cp) 5 ((bytesRow (tx L) cp).size, (bytesRow (tx L) cp).size + 1))) := ⟨_, rfl⟩
      rw [← hX]
      have hbx : Below W4.heap.size W4 X := by rw [hX]; exact ((Below.refl _ _).alloc (Nat.le_refl _) _).drew
      obtain ⟨g, hg⟩ : ∃ g, g = W4.heap.size := ⟨_, rfl⟩
      rw [← hg]
      have BG : BRow X g L := by rw [hX, hg]; exact BRow.new W4 L HBT.out cp _
      have HBX := Lib.hid (below_step HB4.out HB4.out.size hbx)
      have HTX := Lib.hid (HT4.out.next hbx)
      have hwg : w.heap.size ≤ g := by rw [hg]; exact HB4.out.size
      obtain ⟨m, hm⟩ := Int.eq_ofNat_of_zero_le (Int.emod_nonneg a1 (show (L.length : Int) ≠ 0 by omega))
      have hml : m < L.length := by have := Int.emod_lt_of_pos a1 (show 0 < (L.length : Int) by omega); omega
      obtain ⟨n, hn⟩ := Int.eq_ofNat_of_zero_le (Int.emod_nonneg a2 (show (24 : Int) ≠ 0 by decide))
      have hnl : n < 24 := by have := Int.emod_lt_of_pos a2 (show (0 : Int) < 24 by decide); omega
      have md1 := fun W => mod_any a1 L.length (by omega) (by omega) l1 u1 W
      have md2 := fun W => mod_any a2 24 (by decide) (by decide) l2 u2 W
      rw [hm] at md1
      rw [hn] at md2
      obtain ⟨d, hd⟩ := gt_of (l := ch13) (j := n) (by exact hnl)
      obtain ⟨hi, hz'⟩ := tx_byte ch_byt hd
      have hd256 : d < 256 := ch_byt d (List.mem_iff_getElem?.2 ⟨n, hd⟩)
      obtain ⟨c1, hc1⟩ := gt_of hml
      have k1 := BG.cell hc1
      have k2 := BG.frozen hml
      have i1 : 0 ≤ (m : Int) ∧ (m : Int) < L.length := by omega
      have i2 : 0 ≤ (n : Int) ∧ (n : Int) < 24 := by omega
      have lC := ch_lit
      have sC : (tx ch13).size = 24 := tx_size _
      obtain ⟨L2, hL2⟩ : ∃ L2, L2 = L.set m d := ⟨_, rfl⟩
      have BG2 := BG.set hml d
      rw [← hL2] at BG2
      have hl2 : L2.length = L.length := by rw [hL2, List.length_set]
      have hb2' : Byt L2 := by
        rw [hL2]
        intro y hy
        rcases List.mem_or_eq_of_mem_set hy with h | h
        · exact HBT.out y h
        · omega
      have hcv2 := tx_back (X.setCell ⟨g, m, none⟩ (.int .u8 (d : Int))) ⟨g, 0, none⟩ cp L.length L2 hl2.symm hb2' (fun j y hj => by
        rw [add_at, Nat.zero_add]
        exact BG2.cell hj)
      have hx2 : Below w.heap.size w (X.setCell ⟨g, m, none⟩ (.int .u8 (d : Int))) := HBX.out.setCell (p := ⟨g, m, none⟩) hwg _
      have ht2 : P10 (X.setCell ⟨g, m, none⟩ (.int .u8 (d : Int))) := HT.out.next hx2
      have hpa := Lib.hid (parse_any L2 (X.setCell ⟨g, m, none⟩ (.int .u8 (d : Int))) hb2' (by omega))
      have HX2 := Lib.hid hx2
      have HT2' := Lib.hid ht2
      have HG2 := Lib.hid BG2
      have HB2' := Lib.hid hb2'
      clear hcp hX hbx hg BG hm hn hd hc1 hL2 BG2 hb2' hx2 ht2 hcv
      go_wp2_with fail
      refine (md1 _).mono ?_
      rintro e w' ⟨rfl, rfl⟩
      clear md1
      go_wp2_with fail
      refine (md2 _).mono ?_
      rintro e w' ⟨rfl, rfl⟩
      clear md2
      go_wp2_with fail
      refine hpa.out.mono ?_
      rintro e W5 ⟨hp, hb5⟩
      have HB5 := Lib.hid (below_step HX2.out HX2.out.size hb5)
      have HT5 := Lib.hid (HT2'.out.next hb5)
      have HG5 := Lib.hid (HG2.out.next hb5)
      clear hpa hb5
      rcases hp with ⟨hne, rfl⟩ | ⟨hps2, nm2, f2, S2, A2, c2, hx2, rfl, hra2⟩
      · have hne2 : (prsE L2 != 0) = true := by simpa using hne
        generalize prsE L2 = E2 at *
        clear hne
        go_wp2_with fail
        go_ret
        exact ⟨rfl, HB5.out.alloc HB5.out.size _⟩
      · obtain ⟨pe, pl⟩ := parse_back hps2 hx2
        have hwf2 := wf_mkR hx2
        obtain ⟨W6, hW6⟩ : ∃ W, W = W5.alloc (.cells #[.string (tx nm2), .slice A2 (mkR S2).length c2, .int .i64 (f2 : Int)] 24) := ⟨_, rfl⟩
        have hb6 : Below W5.heap.size W5 W6 := by rw [hW6]; exact (Below.refl _ _).alloc (Nat.le_refl _) _
        have BX6 := Lib.hid (show Blk W6 W5.heap.size 24 #[.string (tx nm2), .slice A2 (mkR S2).length c2, .int .i64 (f2 : Int)] by rw [hW6]; exact Blk.new _ _ _)
        have hpr := Lib.hid (print_any (tx nm2) A2 c2 (mkR S2) f2 W6 (hra2.own.next hb6) hwf2 (HT5.out.next hb6))
        have HB6 := Lib.hid (below_step HB5.out HB5.out.size hb6)
        have HG6 := Lib.hid (HG5.out.next hb6)
        have PE := Lib.hid pe
        have PL := Lib.hid pl
        have HW6 := Lib.hid hW6
        have p0 := BX6.out.cell 0
        have p1 := BX6.out.cell 1
        have p2 := BX6.out.cell 2
        simp at p0 p1 p2
        clear hps2 hx2 hra2 pe pl hwf2 hW6 hb6
        go_upto_region 13 with fail
        rw [← HW6.out]
        go_wp2_with fail
        refine hpr.out.mono ?_
        rintro e W7 ⟨he, hb7⟩
        rw [PE.out, PL.out] at he
        subst he
        have HB7 := Lib.hid (below_step HB6.out HB6.out.size hb7)
        have hcv3 := tx_back W7 ⟨g, 0, none⟩ cp L.length L2 hl2.symm HB2'.out (fun j y hj => by
          rw [add_at, Nat.zero_add]
          exact (HG6.out.next hb7).cell hj)
        clear hpr hb7 p0 p1 p2
        go_wp2_with fail
        go_ret
        exact ⟨rfl, HB7.out⟩
  · rw [h6] at he
    subst he
    have haw := Lib.hid (awake_any W1 HT1.out)
    clear h6
    go_wp2_with fail
    refine haw.out.mono ?_
    rintro e W2 ⟨rfl, hb2⟩
    have HB2 := Lib.hid (below_step HB1.out HB1.out.size hb2)
    clear haw hb2
    go_wp2_with fail
    go_ret
    exact ⟨rfl, HB2.out⟩
end Go.Proofs.YtodnicaidmilkaaDoor
