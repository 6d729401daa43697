/-
  The walk of BeltValid. (Made by mklvalid-s11.py.)
-/
import Derived.Test.YtkknmphigpcjjaaQval2
import Derived.Test.YtkknmphigpcjjaaLFrames
import Derived.Deep.RegionHeld3
import Derived.Deep.DeepCutAuto
import Derived.Deep.CutBlock
namespace Go.Proofs.Ytkknmphigpcjjaa
open Go.RowKit
set_option maxRecDepth 100000
set_option linter.unusedVariables false

theorem copyQ_at (A : Option Addr) (c m : Nat) (Q : List (List IncR)) (w : World) (hQ : QArr w (Lt w.heap.size) A c Q) (hn : Q.length ≤ 4096) (hqn : ∀ q ∈ Q, q.length ≤ 4000) (h1 : m = Q.length) :
    Calls Try.prog 15 #[.slice A m c] w (GivesBelts Q w) := by
  subst h1
  exact copyQ_any A c Q w hQ hn hqn
theorem refWords_at (A : Option Addr) (c m : Nat) (Q : List (List IncR)) (w : World) (hQ : QArr w (Lt w.heap.size) A c Q) (h1 : m = Q.length) :
    Calls Try.prog 19 #[.slice A m c] w fun e w' => e = .returned (.int .i64 (wrdQ Q)) ∧ Below w.heap.size w w' := by
  subst h1
  exact refWords_any A c Q w hQ
theorem refLargest_at (s : Int) (V1 V2 : Value) (A : Option Addr) (c m : Nat) (Q : List (List IncR)) (w : World) (hQ : QArr w (Lt w.heap.size) A c Q) (h1 : m = Q.length) :
    Calls Try.prog 21 #[.agg #[.int .i64 s, V1, V2], .slice A m c] w fun e w' => e = .returned (.int .i64 (lgQ s Q)) ∧ Below w.heap.size w w' := by
  subst h1
  exact refLargest_any s V1 V2 A c Q w hQ
theorem open_at (s wo l : Int) (b : Bool) (V1 V2 : Value) (sq bt fi la : Int) (w : World) (h : opnB s wo l = b) :
    Calls Try.prog 22 #[.agg #[.int .i64 s, V1, V2], .agg #[.int .i64 sq, .int .i64 bt, .int .i64 fi, .int .i64 la, .int .i64 wo], .int .i64 l] w fun e w' => e = .returned (.bool b) ∧ Below w.heap.size w w' := by
  subst h
  exact open_any s wo l V1 V2 sq bt fi la w
theorem refOpen_at (s wo l : Int) (b : Bool) (V1 V2 : Value) (sq bt fi la : Int) (w : World) (h : opnB s wo l = b) :
    Calls Try.prog 23 #[.agg #[.int .i64 s, V1, V2], .agg #[.int .i64 sq, .int .i64 bt, .int .i64 fi, .int .i64 la, .int .i64 wo], .int .i64 l] w fun e w' => e = .returned (.bool b) ∧ Below w.heap.size w w' := by
  subst h
  exact refOpen_any s wo l V1 V2 sq bt fi la w
theorem refRemove_at (A : Option Addr) (c m : Nat) (Q : List (List IncR)) (x : Int) (w : World) (hQ : QArr w (Lt w.heap.size) A c Q) (hn : Q.length ≤ 4096) (hqn : ∀ q ∈ Q, q.length ≤ 4000) (h1 : m = Q.length) :
    Calls Try.prog 12 #[.slice A m c, .int .i64 x] w (RemB Q w) := by
  subst h1
  exact refRemove_any A c Q x w hQ hn hqn
theorem refBelt_at (s : Int) (A A' : Option Addr) (nw c n c' : Nat) (wd : Nat → Int) (F : Nat → Fr) (Al : Option Addr) (cl m : Nat) (Q : List (List IncR)) (w : World) (hA : Arr w w.heap.size A nw c wd) (hT : Tab w w.heap.size A' n c' F)
    (hQ : QArr w (Lt w.heap.size) Al cl Q) (htot : Q.flatten.length ≤ 400) (h1 : m = Q.length) :
    Calls Try.prog 17 #[.agg #[.int .i64 s, .slice A nw c, .slice A' n c'], .slice Al m cl] w (IffOf (ValQ s nw wd n F Q) w) := by
  subst h1
  exact refBelt_any s A A' nw c n c' wd F Al cl Q w hA hT hQ htot
theorem lenQ_mem {Q : List (List IncR)} {q : List IncR} (h : q ∈ Q) : q.length ≤ lenQ Q := by
  unfold lenQ
  obtain ⟨a, b, e⟩ := List.append_of_mem h
  rw [e]
  simp
  omega

theorem lenQ_take (Q : List (List IncR)) (k : Nat) : lenQ (Q.take k) ≤ lenQ Q := by
  have h : lenQ Q = lenQ (Q.take k) + lenQ (Q.drop k) := by
    unfold lenQ
    rw [← List.length_append, ← List.flatten_append, List.take_append_drop]
  omega

theorem bat_q {X L : World} {A0 A1 A2 A3 A4 : Option Addr} {c0 n1 c1 n2 c2 n3 c3 n4 c4 li : Nat} {I : List IncR} {R S : List (List IncR)} (hc : Below X.heap.size X L) (h0 : QArr X (Lt X.heap.size) A0 c0 (qOf I)) (ht : lenQ (qOf I) = li) (hl : li ≤ 400)
    (h1 : QArr X (Lt X.heap.size) A1 c1 R) (e1 : n1 = R.length) (l1 : lenQ R ≤ 400) (h2 : QArr X (Lt X.heap.size) A2 c2 S) (e2 : n2 = S.length) (l2 : lenQ S ≤ 400) (h3 : QArr L (Lt L.heap.size) A3 c3 ([] :: qOf I)) (e3 : n3 = 4) (h4 : QArr L (Lt L.heap.size) A4 c4 (qOf I ++ [[]])) (e4 : n4 = 4) :
    (∀ j, j < 6 → BAt (L.alloc (.cells #[.slice A0 3 c0, .slice A1 n1 c1, .slice A2 n2 c2, .slice A3 n3 c3, .slice A4 n4 c4, .slice A0 2 c0] 26)) L.heap.size j) ∧
      L.heap.size < (L.alloc (.cells #[.slice A0 3 c0, .slice A1 n1 c1, .slice A2 n2 c2, .slice A3 n3 c3, .slice A4 n4 c4, .slice A0 2 c0] 26)).heap.size ∧
      Below X.heap.size X (L.alloc (.cells #[.slice A0 3 c0, .slice A1 n1 c1, .slice A2 n2 c2, .slice A3 n3 c3, .slice A4 n4 c4, .slice A0 2 c0] 26)) := by
  have ha : lenQ ([] :: qOf I) = lenQ (qOf I) := by unfold lenQ; simp only [List.flatten_cons, List.nil_append]
  have hb : lenQ (qOf I ++ [[]]) = lenQ (qOf I) := by unfold lenQ; simp only [List.flatten_append, List.flatten_cons, List.flatten_nil, List.append_nil]
  have hk := lenQ_take (qOf I) 2
  have h00 := h0.next hc
  exact bat6 hc ⟨h00, by rw [qOf_len], by omega⟩ ⟨h1.next hc, e1, l1⟩ ⟨h2.next hc, e2, l2⟩ ⟨h3, by rw [e3, List.length_cons, qOf_len], by omega⟩ ⟨h4, by rw [e4, List.length_append, qOf_len]; rfl, by omega⟩ ⟨h00.take 2, rfl, by omega⟩

set_option maxHeartbeats 40000000 in
theorem walkLValid (s : Int) (A A' : Option Addr) (nw c n c' : Nat) (wd0 : Nat → Int) (F0 : Nat → Fr) (RA : Option Addr) (RC : Nat) (R : List (List IncR)) (Al : Option Addr) (nl cl : Nat) (what at_ by_ : Int) (w : World) (hA : Arr w w.heap.size A nw c wd0) (hT : Tab w w.heap.size A' n c' F0)
    (hR : QArr w (Lt w.heap.size) RA RC R) (hRl : ∀ q ∈ R, q.length ≤ 140737488355328) (hL : ListP w w.heap.size Al nl cl)
    (c0 : -9223372036854775808 ≤ what) (c1 : what ≤ 9223372036854775807) (d0 : -9223372036854775808 ≤ at_) (d1 : at_ ≤ 9223372036854775807) (e0 : -9223372036854775808 ≤ by_) (e1 : by_ ≤ 9223372036854775807) :
    Calls Try.prog 3 #[.agg #[.int .i64 s, .slice A nw c, .slice A' n c'], .slice RA R.length RC, .slice Al nl cl, .int .i64 what, .int .i64 at_, .int .i64 by_] w fun e w' => e = .returned (.bool true) ∧ Below w.heap.size w w' := by
  obtain ⟨j0, hj0, hy0, hy1, hy2⟩ := info_parts rows_info
  obtain ⟨U, hU⟩ : ∃ U, U = w.alloc (.cells #[.int .i64 s, .slice A nw c, .slice A' n c'] 25) := ⟨_, rfl⟩
  have BX := Lib.hid (show Blk U w.heap.size 25 #[.int .i64 s, .slice A nw c, .slice A' n c'] by rw [hU]; exact Blk.new _ _ _)
  have hbu : Below w.heap.size w U := by rw [hU]; exact (Below.refl _ _).alloc (Nat.le_refl _) _
  have HBU := Lib.hid hbu
  have HU := Lib.hid hU
  have HL := Lib.hid (hL.next hbu)
  have HA0 := Lib.hid hA
  have HT0 := Lib.hid hT
  have HR0 := Lib.hid hR
  have HRL := Lib.hid hRl
  have p0 := BX.out.cell 0
  have p1 := BX.out.cell 1
  have p2 := BX.out.cell 2
  simp at p0 p1 p2
  clear hL hU hbu hA hT hR hRl
  go_enter Try.func3, Try.ntmps3
  go_wp2_with fail
  rw [← HU.out]
  refine (small_any s A A' nw c n c' U).mono ?_
  rintro e U1 ⟨rfl, hb⟩
  have BX1 := Lib.hid (BX.out.next hb)
  have HBU1 := Lib.hid (below_next HBU.out (Nat.le_refl _) hb)
  have HL1 := Lib.hid (HL.out.next hb)
  clear hb BX HBU HL HU p0 p1 p2
  obtain ⟨sm, hsm, hn⟩ : ∃ b, (decide (nw ≤ 3000) && decide (n ≤ 80)) = b ∧ (b = true → nw ≤ 3000 ∧ n ≤ 80) := ⟨_, rfl, by simp⟩
  rw [hsm]
  clear hsm
  rcases sm with _ | _
  · clear hn
    go_wp2_with fail
    refine (awake11_any U1).mono ?_
    rintro e w6 ⟨rfl, b6⟩
    have HB6 := Lib.hid b6
    clear b6
    go_wp2
    go_ret
    exact ⟨rfl, below_next HBU1.out (Nat.le_refl _) HB6.out⟩
  have hnb := hn rfl
  clear hn
  go_wp2_with fail
  refine (slight_any RA RC R U1 (HR0.out.next HBU1.out) HRL.out).mono ?_
  rintro e U2 ⟨sl, rfl, hsl, hb⟩
  have BX2 := Lib.hid (BX1.out.next hb)
  have HBU2 := Lib.hid (below_next HBU1.out (Nat.le_refl _) hb)
  have HL2 := Lib.hid (HL1.out.next hb)
  clear hb BX1 HBU1 HL1
  cases sl with
  | false =>
    clear hsl
    go_wp2_with fail
    refine (awake11_any U2).mono ?_
    rintro e w6 ⟨rfl, b6⟩
    have HB6 := Lib.hid b6
    clear b6
    go_wp2
    go_ret
    exact ⟨rfl, below_next HBU2.out (Nat.le_refl _) HB6.out⟩
  | true =>
    have HSL := Lib.hid (hsl rfl)
    clear hsl
    go_wp2_with fail
    refine (deck_any Al nl cl U2 HL2.out).mono ?_
    rintro e U3 ⟨rfl, hd, hb, hz⟩
    have HDK := Lib.hid hd
    have BX3 := Lib.hid (BX2.out.next hb)
    have HBU3 := Lib.hid (below_next HBU2.out (Nat.le_refl _) hb)
    have zz := BX2.out.lt
    clear hd hb BX2 HBU2 HL2
    go_wp2_with fail
    refine (spaceY_any U2.heap.size U3 HDK.out).mono ?_
    rintro e U4 ⟨K, m, B, d, gb, d', wd, F, L, rfl, kk0, kk1, m0, m1, hoA, hoT, ⟨hvp, how, hu⟩, ⟨_, I, BI', hBI, hLR, hAll, _, hcov⟩, hG⟩
    have BX4 := Lib.hid (BX3.out.turn hG (by omega))
    have HBU4 := Lib.hid (below_turn HBU3.out hG (by omega))
    have hmk0 : 0 < m * 2 ^ K := Nat.mul_pos (by omega) (Nat.two_pow_pos K)
    have hmk1 : m * 2 ^ K ≤ 16384 := prod_le (by omega) (by omega)
    obtain ⟨mk, hmk⟩ : ∃ mk, mk = m * 2 ^ K := ⟨_, rfl⟩
    rw [← hmk] at hoA hmk0 hmk1 ⊢
    obtain ⟨V, hV⟩ : ∃ V, V = U4.alloc (.cells #[.int .i64 K, .slice B mk d, .slice (some ⟨gb, 0, none⟩) m d'] 25) := ⟨_, rfl⟩
    have hbv : Below U4.heap.size U4 V := by rw [hV]; exact (Below.refl _ _).alloc (Nat.le_refl _) _
    obtain ⟨SB, hSB⟩ : ∃ b, b = U4.heap.size := ⟨_, rfl⟩
    have BY := Lib.hid (show Blk V SB 25 #[.int .i64 K, .slice B mk d, .slice (some ⟨gb, 0, none⟩) m d'] by rw [hV, hSB]; exact Blk.new _ _ _)
    have BX5 := Lib.hid (BX4.out.next hbv)
    have HBV := Lib.hid (below_next HBU4.out (Nat.le_refl _) hbv)
    have HSA := Lib.hid (hoA.arr.next hbv)
    have HST := Lib.hid (hoT.tab.next hbv)
    obtain ⟨LA, LC, hLe, hla⟩ := larr_of hLR.1
    subst hLe
    have HLA := Lib.hid (hla.lt.next hbv)
    have hI17 := allP_len hAll
    have HALL := Lib.hid hAll
    obtain ⟨li, hli⟩ : ∃ x, x = I.length := ⟨_, rfl⟩
    rw [← hli] at hI17 ⊢
    have HLI := Lib.hid hli
    have HQT := Lib.hid (show lenQ (qOf I) = li by unfold lenQ; rw [qOf_total (allP_belts hAll)]; exact hli.symm)
    have HVV := Lib.hid hV
    have HSB := Lib.hid hSB
    clear hV hbv hG HDK hz hoA hoT hmk hvp how hu hLR hAll hBI hli hcov hla hSB BX3 BX4 HBU3 HBU4
    go_wp2_with fail
    rw [← HVV.out, ← HSB.out]
    refine (queue_at LA LC li I V HLA.out (allP_belts HALL.out) (by have := HLI.out; omega) HLI.out).mono ?_
    rintro e V1 ⟨v, rfl, hr, _, hb⟩
    obtain ⟨QA, QC, rfl, hqa⟩ := hr.qarr
    rw [qOf_len]
    have BY1 := Lib.hid (BY.out.next hb)
    have BX6 := Lib.hid (BX5.out.next hb)
    have HB1 := Lib.hid (below_next HBV.out (Nat.le_refl _) hb)
    have HSA1 := Lib.hid (HSA.out.next hb)
    have HST1 := Lib.hid (HST.out.next hb)
    have HLA1 := Lib.hid (HLA.out.next hb)
    have HQ1 := Lib.hid hqa.lt
    clear hr hqa hb BY BX5 HBV HSA HST HLA HVV HSB
    go_upto_if 44 with fail
    go_cut [16] (fun fw wx => ∃ (FA : Option Addr) (n FC : Nat) (Q : List (List IncR)), fw = .slice FA n FC ∧ n = Q.length ∧ QArr wx (Lt wx.heap.size) FA FC Q ∧ lenQ Q ≤ 400 ∧ Below V1.heap.size V1 wx)
    case first =>
      by_cases hl0 : li = 0
      · subst hl0
        go_wp2
        go_meet
        exact ⟨_, _, _, qOf I, rfl, rfl, HQ1.out, by rw [HQT.out]; omega, Below.refl _ _⟩
      · have hlb : (0 : Int) < li := by omega
        have hmod := Int.emod_nonneg at_ (show (li : Int) ≠ 0 by omega)
        have hmod2 := Int.emod_lt_of_pos at_ (show 0 < (li : Int) by omega)
        obtain ⟨z, hz⟩ : ∃ z : Nat, at_ % (li : Int) = z := ⟨(at_ % (li : Int)).toNat, by omega⟩
        rw [hz] at hmod hmod2
        obtain ⟨i, hi⟩ := nth_of (show z < I.length by have := HLI.out; omega)
        obtain ⟨gl, ol, rfl, _, hgl, x0, x1, x2, x3, x4⟩ := HLA1.out.at_ hi
        have HZ := Lib.hid hz
        have hzb : 0 ≤ (z : Int) ∧ (z : Int) < li := by omega
        clear hz hi
        go_wp2_with fail
        refine (mod_any at_ li (by omega) (by omega) d0 d1 V1).mono ?_
        rintro e V2 ⟨rfl, rfl⟩
        rw [HZ.out]
        go_wp2_with fail
        refine (refRemove_at QA QC 3 (qOf I) i.sq V1 HQ1.out (by rw [qOf_len]; omega) (fun q hq => by have := lenQ_mem hq; have := HQT.out; omega) rfl).mono ?_
        rintro e V3 ⟨v, x, Q', rfl, hr, hr1, hr2, hb⟩
        obtain ⟨FA, FC, rfl, hqa⟩ := hr.qarr
        have HQF := Lib.hid hqa.lt
        have HB3 := Lib.hid hb
        have HLF := Lib.hid (show lenQ Q' ≤ 400 by have := HQT.out; omega)
        clear hr hr1 hr2 hqa hb x0 x1 x2 x3 x4
        go_wp2
        go_meet
        exact ⟨FA, _, FC, Q', rfl, rfl, HQF.out, HLF.out, HB3.out⟩
    case rest =>
      obtain ⟨X, rfl⟩ : ∃ X, X = wc := ⟨_, rfl⟩
      obtain ⟨FA, fn, FC, FQ, rfl, hfn, hqf, hlf, hb⟩ := hcut
      subst hfn
      have HQF := Lib.hid hqf
      have HLF := Lib.hid hlf
      have BYX := Lib.hid (BY1.out.next hb)
      have BXX := Lib.hid (BX6.out.next hb)
      have HBX := Lib.hid (below_next HB1.out (Nat.le_refl _) hb)
      have HSAX := Lib.hid (HSA1.out.next hb)
      have HSTX := Lib.hid (HST1.out.next hb)
      have HLAX := Lib.hid (HLA1.out.next hb)
      have HQX := Lib.hid (HQ1.out.next hb)
      clear hqf hlf hb BY1 BX6 HB1 HSA1 HST1 HLA1 HQ1
      have HAX := Lib.hid ((HA0.out.below HBX.out).more HBX.out.size)
      have HTX := Lib.hid ((HT0.out.below HBX.out).more HBX.out.size)
      have HRX := Lib.hid (HR0.out.next HBX.out)
      have p0 := BXX.out.cell 0
      have p1 := BXX.out.cell 1
      have p2 := BXX.out.cell 2
      simp at p0 p1 p2
      have q0 := BYX.out.cell 0
      have q1 := BYX.out.cell 1
      have q2 := BYX.out.cell 2
      simp at q0 q1 q2
      have zx : w.heap.size < X.heap.size := BXX.out.lt
      have zy : SB < X.heap.size := BYX.out.lt
      have hc : Below X.heap.size X X.drew := (Below.refl _ _).drew
      clear HA0 HT0 HR0
      go_upto_region 8 with fail
      go_cut [65, 66, 67] (fun q l i wx => l = .int .i64 3 ∧ i = .int .i64 0 ∧ ∃ G, q = .slice (some ⟨G, 0, none⟩) 3 3 ∧ (∀ j, j < 3 → SAt wx G j) ∧ G < wx.heap.size ∧ Below X.heap.size X wx)
      case first =>
        go_region_held3 (fun w' => w'.cell? ⟨w.heap.size, 0, none⟩ = some (.int .i64 s) ∧ w'.cell? ⟨w.heap.size, 1, none⟩ = some (.slice A nw c) ∧ w'.cell? ⟨w.heap.size, 2, none⟩ = some (.slice A' n c') ∧ w'.cell? ⟨SB, 0, none⟩ = some (.int .i64 K) ∧ w'.cell? ⟨SB, 1, none⟩ = some (.slice B mk d) ∧ w'.cell? ⟨SB, 2, none⟩ = some (.slice (some ⟨gb, 0, none⟩) m d'))
          (first | (with_reducible exact ⟨(hc.cell (p := ⟨_, 0, none⟩) zx).trans p0, (hc.cell (p := ⟨_, 1, none⟩) zx).trans p1, (hc.cell (p := ⟨_, 2, none⟩) zx).trans p2, (hc.cell (p := ⟨_, 0, none⟩) zy).trans q0, (hc.cell (p := ⟨_, 1, none⟩) zy).trans q1, (hc.cell (p := ⟨_, 2, none⟩) zy).trans q2⟩) | (with_reducible exact ⟨((hc.alloc hc.size _).cell (p := ⟨_, 0, none⟩) zx).trans p0, ((hc.alloc hc.size _).cell (p := ⟨_, 1, none⟩) zx).trans p1, ((hc.alloc hc.size _).cell (p := ⟨_, 2, none⟩) zx).trans p2, ((hc.alloc hc.size _).cell (p := ⟨_, 0, none⟩) zy).trans q0, ((hc.alloc hc.size _).cell (p := ⟨_, 1, none⟩) zy).trans q1, ((hc.alloc hc.size _).cell (p := ⟨_, 2, none⟩) zy).trans q2⟩) | go_keep)
          (first | (go_at_call 14; refine (spoilt_any K B (some ⟨gb, 0, none⟩) mk d m d' wd F what at_ by_ _ (HSAX.out.next hc) (HSTX.out.next hc) (by omega) (by omega) (by omega) hmk0 c0 c1 d0 d1 e0 e1).mono ?_; rintro e wq ⟨k1, nw1, c1', g1, c1'', A1, wd1, F1, rfl, lo1, hi1, ho, ht, hb⟩; have hc := below_next hc (Nat.le_refl _) hb))
        have v0 : ∃ wd F, Arr wq wq.heap.size B mk d wd ∧ Tab wq wq.heap.size (some ⟨gb, 0, none⟩) m d' F := ⟨_, _, HSAX.out.next hc, HSTX.out.next hc⟩
        have v1 : ∃ wd F, Arr wq wq.heap.size A nw c wd ∧ Tab wq wq.heap.size A' n c' F := ⟨_, _, HAX.out.next hc, HTX.out.next hc⟩
        have v2 : ∃ wd F, Arr wq wq.heap.size A1 nw1 c1' wd ∧ Tab wq wq.heap.size (some ⟨g1, 0, none⟩) m c1'' F := ⟨_, _, ho.arr, ht.tab⟩
        have Z := Lib.hid (sat3 (s0 := K) (s1 := s) (s2 := k1) hc v0 v1 v2)
        clear hc v0 v1 v2 ho ht hb
        go_wp2
        go_meet
        exact ⟨rfl, rfl, _, rfl, Z.out⟩
      case rest =>
        obtain ⟨C0, rfl⟩ : ∃ C0, C0 = wc := ⟨_, rfl⟩
        obtain ⟨rfl, rfl, G, rfl, hSA, hG, hB⟩ := hcut
        have HSAT := Lib.hid hSA
        have HCV := Lib.hid hB
        have HQC := Lib.hid (HQX.out.next hB)
        have HRC := Lib.hid (HRX.out.next hB)
        have HFC := Lib.hid (HQF.out.next hB)
        clear hSA hB hc p0 p1 p2 q0 q1 q2 zx zy HAX HTX BXX HRX HQF hnb
        go_wp2_with fail
        go_loopw [67] (fun i wr => ∃ j : Nat, j ≤ 3 ∧ i = .int .i64 j ∧ Below C0.heap.size C0 wr) (fun i _ => 3 - (intOf i).toNat)
        case atStart => exact ⟨0, Nat.zero_le _, rfl, Below.refl _ _⟩
        case round =>
          obtain ⟨RW, rfl⟩ : ∃ RW, RW = wr := ⟨_, rfl⟩
          obtain ⟨j, hj, rfl, hb⟩ := hrel
          by_cases hlt : j < 3
          · obtain ⟨s, A, nw, c, A', n, c', x0, x1, x2, hv⟩ := HSAT.out j hlt
            have x0' := (hb.cell (p := ⟨G, j * 3, none⟩) hG).trans x0
            have x1' := (hb.cell (p := ⟨G, j * 3 + 1, none⟩) hG).trans x1
            have x2' := (hb.cell (p := ⟨G, j * 3 + 2, none⟩) hG).trans x2
            have zQ : G < RW.heap.size := Nat.lt_of_lt_of_le hG hb.size
            obtain ⟨wdx, Fx, hva, hvt⟩ := hv
            have hj2 : 0 ≤ (j : Int) ∧ (j : Int) < 3 := by omega
            obtain ⟨P0, hP0⟩ : ∃ P, P = RW.alloc (.cells #[.int .i64 s, .slice A nw c, .slice A' n c'] 25) := ⟨_, rfl⟩
            have BP := Lib.hid (show Blk P0 RW.heap.size 25 #[.int .i64 s, .slice A nw c, .slice A' n c'] by rw [hP0]; exact Blk.new _ _ _)
            have hbp0 : Below RW.heap.size RW P0 := by rw [hP0]; exact (Below.refl _ _).alloc (Nat.le_refl _) _
            have HBP0 := Lib.hid (below_next hb (Nat.le_refl _) hbp0)
            have HP0 := Lib.hid hP0
            have HVA := Lib.hid (hva.next HBP0.out)
            have HVT := Lib.hid (hvt.next HBP0.out)
            have HQP := Lib.hid (HQC.out.next HBP0.out)
            have HRP := Lib.hid (HRC.out.next HBP0.out)
            have HFP := Lib.hid (HFC.out.next HBP0.out)
            clear hP0 hva hvt x0 x1 x2 hbp0 hb
            go_upto_region 11 with fail
            rw [← HP0.out]
            clear x0' x1' x2' zQ HP0
            go_cut [83, 84, 85] (fun q l i wx => l = .int .i64 6 ∧ i = .int .i64 0 ∧ ∃ G, q = .slice (some ⟨G, 0, none⟩) 6 6 ∧ (∀ j, j < 6 → BAt wx G j) ∧ G < wx.heap.size ∧ Below P0.heap.size P0 wx)
            case first =>
              have hq3 := HQP.out
              obtain ⟨bq, oq, hQA, hbq⟩ : ∃ bq oq, QA = some ⟨bq, oq, none⟩ ∧ bq < P0.heap.size := by
                obtain ⟨b, o, e, h, _⟩ := hq3.2.2.2 (by rw [qOf_len]; omega)
                exact ⟨b, o, e, h⟩
              subst hQA
              obtain ⟨vs, hvl, hvs, hvq⟩ := hq3.src
              have hqc : 3 ≤ QC := hq3.1
              have hqc2 : (2 : Int) ≤ (QC : Int) := by omega
              have hqc3 : 2 ≤ QC := by omega
              have HVL := Lib.hid hvl
              have HVS := Lib.hid hvs
              have HVQ := Lib.hid hvq
              have hc : Below P0.heap.size P0 P0.drew := (Below.refl _ _).drew
              clear hq3 hvl hvs hvq
              refine wp_region_held_drew (S := (fun w' => Below P0.heap.size P0 w')) (by kernel_rfl) ?_ (fun hHeld => ?_)
              · exact hc
              (refine wpAnyH_take (i := 0) (v := ?_) rfl (by kernel_rfl) (by kernel_rfl) (by kernel_rfl) (fun _ _ _ h => h) (Or.inl ⟨by rfl, ?_⟩) (by assumption) ?_; rotate_left 1; (focus (intro w' hSw; (try dsimp only at hSw); go_simp; (try with_reducible rfl); done)); try simp only [Act.put, List.setIfInBounds_toArray, List.set_cons_zero, List.set_cons_succ, List.getElem_toArray, List.getElem_cons_zero])
              (refine wpAnyH_take (i := 1) (v := ?_) rfl (by kernel_rfl) (by kernel_rfl) (by kernel_rfl) (fun _ _ _ h => h) (Or.inl ⟨by rfl, ?_⟩) (by assumption) ?_; rotate_left 1; (focus (intro w' hSw; (try dsimp only at hSw); go_simp; (try with_reducible rfl); done)); try simp only [Act.put, List.setIfInBounds_toArray, List.set_cons_zero, List.set_cons_succ, List.getElem_toArray, List.getElem_cons_zero, List.getElem_cons_succ])
              (refine wpAnyH_take (i := 2) (v := ?_) rfl (by kernel_rfl) (by kernel_rfl) (by kernel_rfl) (fun _ _ _ h => h) (Or.inl ⟨by rfl, ?_⟩) (by assumption) ?_; rotate_left 1; (focus (intro w' hSw; (try dsimp only at hSw); go_simp; (try with_reducible rfl); done)); try simp only [Act.put, List.setIfInBounds_toArray, List.set_cons_zero, List.set_cons_succ, List.getElem_toArray, List.getElem_cons_zero, List.getElem_cons_succ])
              (refine wpAnyH_take (i := 4) (v := ?_) rfl (by kernel_rfl) (by kernel_rfl) (by kernel_rfl) (fun _ _ _ h => h) (Or.inl ⟨by rfl, ?_⟩) (by assumption) ?_; rotate_left 1; (focus (intro w' hSw; (try dsimp only at hSw); go_simp; (try with_reducible rfl); done)); try simp only [Act.put, List.setIfInBounds_toArray, List.set_cons_zero, List.set_cons_succ, List.getElem_toArray, List.getElem_cons_zero, List.getElem_cons_succ])
              (refine wpAnyH_take (i := 6) (v := ?_) rfl (by kernel_rfl) (by kernel_rfl) (by kernel_rfl) (fun _ _ _ h => h) (Or.inl ⟨by rfl, ?_⟩) (by assumption) ?_; rotate_left 1; (focus (intro w' hSw; (try dsimp only at hSw); go_simp; (try with_reducible rfl); done)); try simp only [Act.put, List.setIfInBounds_toArray, List.set_cons_zero, List.set_cons_succ, List.getElem_toArray, List.getElem_cons_zero, List.getElem_cons_succ])
              (refine wpAnyH_take (i := 10) (v := ?_) rfl (by kernel_rfl) (by kernel_rfl) (by kernel_rfl) (fun _ _ _ h => h) (Or.inl ⟨by rfl, ?_⟩) (by assumption) ?_; rotate_left 1; (focus (intro w' hSw; (try dsimp only at hSw); go_simp; (try with_reducible rfl); done)); try simp only [Act.put, List.setIfInBounds_toArray, List.set_cons_zero, List.set_cons_succ, List.getElem_toArray, List.getElem_cons_zero, List.getElem_cons_succ])
              (refine wpAnyH_take (i := 11) (v := ?_) rfl (by kernel_rfl) (by kernel_rfl) (by kernel_rfl) (fun _ _ _ h => h) (Or.inl ⟨by rfl, ?_⟩) (by assumption) ?_; rotate_left 1; (focus (intro w' hSw; (try dsimp only at hSw); go_simp; (try with_reducible rfl); done)); try simp only [Act.put, List.setIfInBounds_toArray, List.set_cons_zero, List.set_cons_succ, List.getElem_toArray, List.getElem_cons_zero, List.getElem_cons_succ])
              (refine wpAnyH_take (i := 14) (v := ?_) rfl (by kernel_rfl) (by kernel_rfl) (by kernel_rfl) (fun _ _ _ h => h) (Or.inl ⟨by rfl, ?_⟩) (by assumption) ?_; rotate_left 1; (focus (intro w' hSw; (try dsimp only at hSw); go_simp; (try with_reducible rfl); done)); try simp only [Act.put, List.setIfInBounds_toArray, List.set_cons_zero, List.set_cons_succ, List.getElem_toArray, List.getElem_cons_zero, List.getElem_cons_succ])
              refine wpAnyH_ready (rs := [3, 8]) (by kernel_rfl) (by simp) ?_
              refine AllReadyH.cons rfl (fun K hK => ?_) (AllReadyH.cons rfl (fun K hK => ?_)  AllReadyH.nil)
              · go_simp
                obtain ⟨N1, hN1⟩ : ∃ W', W' = World.drew (World.alloc P0 (.cells #[.slice none 0 0] 31)) := ⟨_, rfl⟩
                rw [← hN1]
                have bN1 : Below P0.heap.size P0.drew N1 := by rw [hN1]; exact (show Below P0.heap.size P0.drew (World.alloc P0.drew (.cells #[.slice none 0 0] 31)) from (Below.refl P0.heap.size P0.drew).alloc (Nat.le_refl P0.heap.size) _)
                have c3_1 : N1.cell? ⟨P0.heap.size, 0, none⟩ = some (.slice none 0 0) := by rw [hN1]; exact (Blk.new P0.drew 31 #[.slice none 0 0]).cell 0
                clear hN1
                refine hK.out _ _ (below_next hHeld (Nat.le_refl _) bN1) (fun hHeld2 => ?_)
                clear hK K hHeld
                have hHeld := hHeld2
                clear hHeld2
                try simp only [Act.put, List.setIfInBounds_toArray, List.set_cons_zero, List.set_cons_succ, List.getElem_toArray, List.getElem_cons_zero, List.getElem_cons_succ]
                refine wpAnyH_ready (rs := [5, 8]) (by kernel_rfl) (by simp) ?_
                refine AllReadyH.cons rfl (fun K hK => ?_) (AllReadyH.cons rfl (fun K hK => ?_)  AllReadyH.nil)
                · rw [if_pos (by rfl)]
                  refine wp_append_fresh _ (.tmp 74) (.tmp 75) 26 rfl 31 j0 _ 1 24 Try.underlying26 hj0 hy0 hy1 hy2 rfl (by decide) ⟨P0.drew.heap.size, 0, none⟩ 1 1 [.slice none 0 0] rfl rfl (one_news c3_1) ⟨bq, oq, none⟩ 3 QC vs rfl (by rw [HVL.out]; rfl) (fun j u hu => by rw [add_at]; exact (hHeld.cell (p := ⟨bq, oq + j, none⟩) hbq).trans (HVS.out j u hu).1) (by decide) (by simp only [maxLen]; decide) (by decide) ?_
                  intro v5 N2 F5 bN2
                  obtain ⟨A5, C5, rfl, _⟩ := row_slice F5
                  refine hK.out _ _ (below_next hHeld (Nat.le_refl _) bN2) (fun hHeld2 => ?_)
                  clear hK K hHeld
                  have hHeld := hHeld2
                  clear hHeld2
                  try simp only [Act.put, List.setIfInBounds_toArray, List.set_cons_zero, List.set_cons_succ, List.getElem_toArray, List.getElem_cons_zero, List.getElem_cons_succ]
                  refine wpAnyH_ready (rs := [7, 8]) (by kernel_rfl) (by simp) ?_
                  refine AllReadyH.cons rfl (fun K hK => ?_) (AllReadyH.cons rfl (fun K hK => ?_)  AllReadyH.nil)
                  · go_simp
                    go_at_call 15
                    refine (copyQ_at (some ⟨bq, oq, none⟩) QC 3 (qOf I) _ (HQP.out.next hHeld) (by rw [qOf_len]; omega) (fun q hq => by have := lenQ_mem hq; have := HQT.out; omega) rfl).mono ?_
                    rintro e N3 ⟨v7, rfl, F7, _, bN3⟩
                    obtain ⟨A7, C7, rfl, _⟩ := F7.qarr
                    go_wp2_with fail
                    have F5_3 := ownsRow_keep F5 (w' := N3) fun g _ _ hl => bN3.block g hl
                    refine hK.out _ _ (below_next hHeld (Nat.le_refl _) bN3) (fun hHeld2 => ?_)
                    clear hK K hHeld
                    have hHeld := hHeld2
                    clear hHeld2
                    try simp only [Act.put, List.setIfInBounds_toArray, List.set_cons_zero, List.set_cons_succ, List.getElem_toArray, List.getElem_cons_zero, List.getElem_cons_succ]
                    refine wpAnyH_ready (rs := [8]) (by kernel_rfl) (by simp) ?_
                    refine AllReadyH.cons rfl (fun K hK => ?_) AllReadyH.nil
                    go_simp
                    obtain ⟨N4, hN4⟩ : ∃ W', W' = World.alloc N3 (.cells #[.slice none 0 0] 31) := ⟨_, rfl⟩
                    rw [← hN4]
                    have bN4 : Below N3.heap.size N3 N4 := by rw [hN4]; exact (Below.refl _ _).alloc (Nat.le_refl _) _
                    have c8_4 : N4.cell? ⟨N3.heap.size, 0, none⟩ = some (.slice none 0 0) := by rw [hN4]; exact (Blk.new N3 31 #[.slice none 0 0]).cell 0
                    clear hN4
                    have F5_4 := ownsRow_keep F5_3 (w' := N4) fun g _ _ hl => bN4.block g hl
                    have F7_4 := F7.below bN4
                    refine hK.out _ _ (below_next hHeld (Nat.le_refl _) bN4) (fun hHeld2 => ?_)
                    clear hK K hHeld
                    have hHeld := hHeld2
                    clear hHeld2
                    try simp only [Act.put, List.setIfInBounds_toArray, List.set_cons_zero, List.set_cons_succ, List.getElem_toArray, List.getElem_cons_zero, List.getElem_cons_succ]
                    refine wpAnyH_ready (rs := [9]) (by kernel_rfl) (by simp) ?_
                    refine AllReadyH.cons rfl (fun K hK => ?_) AllReadyH.nil
                    have hHeldLO : P0.heap.size ≤ N2.heap.size := Nat.le_trans (Nat.le_trans (Nat.le_refl _) bN1.size) bN2.size
                    obtain ⟨V7, r1, r2, r3⟩ := F7_4
                    rw [if_pos (by rfl)]
                    refine wp_append_at _ (.tmp 78) (.tmp 79) 26 rfl N2.heap.size 31 j0 _ 1 24 Try.underlying26 hj0 hy0 hy1 hy2 rfl (by decide) (.slice A7 (qOf I).length C7) (qOf I).length ((List.range (qOf I).length).map V7) rfl r1 ⟨N3.heap.size, 0, none⟩ 1 1 [.slice none 0 0] rfl rfl (one_news c8_4) (by simp [Value.oneCell']) (by rw [qOf_len]; simp only [maxLen]; decide) (by rw [qOf_len]; decide) (Nat.le_trans (Nat.le_trans (Nat.le_refl _) bN3.size) bN4.size) ?_
                    intro v9 N5 F9 g9 _
                    obtain ⟨A9, C9, rfl, _⟩ := row_slice F9
                    have Q9 : QArr N5 (Lt N5.heap.size) A9 C9 (qOf I ++ [[]]) := qarr_push r1 r2 g9 rfl F9
                    have F5e := ownsRow_keep F5_4 (w' := N5) fun g hg _ hl => g9.block g hl (fun e => by have h1 := (r1.lt g e.symm).1; have h2 := (F5.lt g hg).2; omega)
                    refine hK.out _ _ (hHeld.grown g9 hHeld.size (fun k hk => Nat.le_trans (Nat.le_trans hHeldLO (Nat.le_refl _)) (r1.lt k hk).1)) (fun hHeld2 => ?_)
                    clear hK K hHeld
                    have hHeld := hHeld2
                    clear hHeld2
                    try simp only [Act.put, List.setIfInBounds_toArray, List.set_cons_zero, List.set_cons_succ, List.getElem_toArray, List.getElem_cons_zero, List.getElem_cons_succ]
                    have Z := Lib.hid (bat_q (X := P0) (L := N5) hHeld HQP.out HQT.out (Nat.le_trans hI17 (by decide)) HRP.out rfl (Nat.le_trans HSL.out.2 (by decide)) HFP.out rfl HLF.out (qarr_cons (w := P0) HVQ.out hHeld rfl F5e) (by rfl) Q9 (by rfl))
                    refine wpAnyH_ready (rs := [12]) (by kernel_rfl) (by simp) ?_
                    refine AllReadyH.cons rfl (fun K hK => ?_) AllReadyH.nil
                    go_simp
                    refine hK.out _ _ (hHeld.alloc hHeld.size _) (fun hHeld2 => ?_)
                    clear hK K hHeld
                    have hHeld := hHeld2
                    clear hHeld2
                    try simp only [Act.put, List.setIfInBounds_toArray, List.set_cons_zero, List.set_cons_succ, List.getElem_toArray, List.getElem_cons_zero, List.getElem_cons_succ]
                    (refine wpAnyH_take (i := 13) (v := ?_) rfl (by kernel_rfl) (by kernel_rfl) (by kernel_rfl) (fun _ _ _ h => h) (Or.inl ⟨by rfl, ?_⟩) (by assumption) ?_; rotate_left 1; (focus (intro w' hSw; (try dsimp only at hSw); go_simp; (try with_reducible rfl); done)); try simp only [Act.put, List.setIfInBounds_toArray, List.set_cons_zero, List.set_cons_succ, List.getElem_toArray, List.getElem_cons_zero, List.getElem_cons_succ])
      
                    refine wpAnyH_done (by kernel_rfl) ?_ _
                    clear hHeld
                    go_wp2
                    go_meet
                    exact ⟨rfl, rfl, _, rfl, Z.out⟩
                  · go_simp
                    obtain ⟨N3, hN3⟩ : ∃ W', W' = World.alloc N2 (.cells #[.slice none 0 0] 31) := ⟨_, rfl⟩
                    rw [← hN3]
                    have bN3 : Below N2.heap.size N2 N3 := by rw [hN3]; exact (Below.refl _ _).alloc (Nat.le_refl _) _
                    have c8_3 : N3.cell? ⟨N2.heap.size, 0, none⟩ = some (.slice none 0 0) := by rw [hN3]; exact (Blk.new N2 31 #[.slice none 0 0]).cell 0
                    clear hN3
                    have F5_3 := ownsRow_keep F5 (w' := N3) fun g _ _ hl => bN3.block g hl
                    refine hK.out _ _ (below_next hHeld (Nat.le_refl _) bN3) (fun hHeld2 => ?_)
                    clear hK K hHeld
                    have hHeld := hHeld2
                    clear hHeld2
                    try simp only [Act.put, List.setIfInBounds_toArray, List.set_cons_zero, List.set_cons_succ, List.getElem_toArray, List.getElem_cons_zero, List.getElem_cons_succ]
                    refine wpAnyH_ready (rs := [7]) (by kernel_rfl) (by simp) ?_
                    refine AllReadyH.cons rfl (fun K hK => ?_) AllReadyH.nil
                    go_simp
                    go_at_call 15
                    refine (copyQ_at (some ⟨bq, oq, none⟩) QC 3 (qOf I) _ (HQP.out.next hHeld) (by rw [qOf_len]; omega) (fun q hq => by have := lenQ_mem hq; have := HQT.out; omega) rfl).mono ?_
                    rintro e N4 ⟨v7, rfl, F7, _, bN4⟩
                    obtain ⟨A7, C7, rfl, _⟩ := F7.qarr
                    go_wp2_with fail
                    have c8_4 := (bN4.cell (p := ⟨_, 0, none⟩) (cell_lt c8_3)).trans c8_3
                    have F5_4 := ownsRow_keep F5_3 (w' := N4) fun g _ _ hl => bN4.block g hl
                    refine hK.out _ _ (below_next hHeld (Nat.le_refl _) bN4) (fun hHeld2 => ?_)
                    clear hK K hHeld
                    have hHeld := hHeld2
                    clear hHeld2
                    try simp only [Act.put, List.setIfInBounds_toArray, List.set_cons_zero, List.set_cons_succ, List.getElem_toArray, List.getElem_cons_zero, List.getElem_cons_succ]
                    refine wpAnyH_ready (rs := [9]) (by kernel_rfl) (by simp) ?_
                    refine AllReadyH.cons rfl (fun K hK => ?_) AllReadyH.nil
                    have hHeldLO : P0.heap.size ≤ N3.heap.size := Nat.le_trans (Nat.le_trans (Nat.le_trans (Nat.le_refl _) bN1.size) bN2.size) bN3.size
                    obtain ⟨V7, r1, r2, r3⟩ := F7
                    rw [if_pos (by rfl)]
                    refine wp_append_at _ (.tmp 78) (.tmp 79) 26 rfl N3.heap.size 31 j0 _ 1 24 Try.underlying26 hj0 hy0 hy1 hy2 rfl (by decide) (.slice A7 (qOf I).length C7) (qOf I).length ((List.range (qOf I).length).map V7) rfl r1 ⟨N2.heap.size, 0, none⟩ 1 1 [.slice none 0 0] rfl rfl (one_news c8_4) (by simp [Value.oneCell']) (by rw [qOf_len]; simp only [maxLen]; decide) (by rw [qOf_len]; decide) (Nat.le_trans (Nat.le_refl _) bN4.size) ?_
                    intro v9 N5 F9 g9 _
                    obtain ⟨A9, C9, rfl, _⟩ := row_slice F9
                    have Q9 : QArr N5 (Lt N5.heap.size) A9 C9 (qOf I ++ [[]]) := qarr_push r1 r2 g9 rfl F9
                    have F5e := ownsRow_keep F5_4 (w' := N5) fun g hg _ hl => g9.block g hl (fun e => by have h1 := (r1.lt g e.symm).1; have h2 := (F5_3.lt g hg).2; omega)
                    refine hK.out _ _ (hHeld.grown g9 hHeld.size (fun k hk => Nat.le_trans (Nat.le_trans hHeldLO (Nat.le_refl _)) (r1.lt k hk).1)) (fun hHeld2 => ?_)
                    clear hK K hHeld
                    have hHeld := hHeld2
                    clear hHeld2
                    try simp only [Act.put, List.setIfInBounds_toArray, List.set_cons_zero, List.set_cons_succ, List.getElem_toArray, List.getElem_cons_zero, List.getElem_cons_succ]
                    have Z := Lib.hid (bat_q (X := P0) (L := N5) hHeld HQP.out HQT.out (Nat.le_trans hI17 (by decide)) HRP.out rfl (Nat.le_trans HSL.out.2 (by decide)) HFP.out rfl HLF.out (qarr_cons (w := P0) HVQ.out hHeld rfl F5e) (by rfl) Q9 (by rfl))
                    refine wpAnyH_ready (rs := [12]) (by kernel_rfl) (by simp) ?_
                    refine AllReadyH.cons rfl (fun K hK => ?_) AllReadyH.nil
                    go_simp
                    refine hK.out _ _ (hHeld.alloc hHeld.size _) (fun hHeld2 => ?_)
                    clear hK K hHeld
                    have hHeld := hHeld2
                    clear hHeld2
                    try simp only [Act.put, List.setIfInBounds_toArray, List.set_cons_zero, List.set_cons_succ, List.getElem_toArray, List.getElem_cons_zero, List.getElem_cons_succ]
                    (refine wpAnyH_take (i := 13) (v := ?_) rfl (by kernel_rfl) (by kernel_rfl) (by kernel_rfl) (fun _ _ _ h => h) (Or.inl ⟨by rfl, ?_⟩) (by assumption) ?_; rotate_left 1; (focus (intro w' hSw; (try dsimp only at hSw); go_simp; (try with_reducible rfl); done)); try simp only [Act.put, List.setIfInBounds_toArray, List.set_cons_zero, List.set_cons_succ, List.getElem_toArray, List.getElem_cons_zero, List.getElem_cons_succ])
      
                    refine wpAnyH_done (by kernel_rfl) ?_ _
                    clear hHeld
                    go_wp2
                    go_meet
                    exact ⟨rfl, rfl, _, rfl, Z.out⟩
                · go_simp
                  obtain ⟨N2, hN2⟩ : ∃ W', W' = World.alloc N1 (.cells #[.slice none 0 0] 31) := ⟨_, rfl⟩
                  rw [← hN2]
                  have bN2 : Below N1.heap.size N1 N2 := by rw [hN2]; exact (Below.refl _ _).alloc (Nat.le_refl _) _
                  have c8_2 : N2.cell? ⟨N1.heap.size, 0, none⟩ = some (.slice none 0 0) := by rw [hN2]; exact (Blk.new N1 31 #[.slice none 0 0]).cell 0
                  clear hN2
                  have c3_2 := (bN2.cell (p := ⟨_, 0, none⟩) (cell_lt c3_1)).trans c3_1
                  refine hK.out _ _ (below_next hHeld (Nat.le_refl _) bN2) (fun hHeld2 => ?_)
                  clear hK K hHeld
                  have hHeld := hHeld2
                  clear hHeld2
                  try simp only [Act.put, List.setIfInBounds_toArray, List.set_cons_zero, List.set_cons_succ, List.getElem_toArray, List.getElem_cons_zero, List.getElem_cons_succ]
                  refine wpAnyH_ready (rs := [5]) (by kernel_rfl) (by simp) ?_
                  refine AllReadyH.cons rfl (fun K hK => ?_) AllReadyH.nil
                  rw [if_pos (by rfl)]
                  refine wp_append_fresh _ (.tmp 74) (.tmp 75) 26 rfl 31 j0 _ 1 24 Try.underlying26 hj0 hy0 hy1 hy2 rfl (by decide) ⟨P0.drew.heap.size, 0, none⟩ 1 1 [.slice none 0 0] rfl rfl (one_news c3_2) ⟨bq, oq, none⟩ 3 QC vs rfl (by rw [HVL.out]; rfl) (fun j u hu => by rw [add_at]; exact (hHeld.cell (p := ⟨bq, oq + j, none⟩) hbq).trans (HVS.out j u hu).1) (by decide) (by simp only [maxLen]; decide) (by decide) ?_
                  intro v5 N3 F5 bN3
                  obtain ⟨A5, C5, rfl, _⟩ := row_slice F5
                  have c8_3 := (bN3.cell (p := ⟨_, 0, none⟩) (cell_lt c8_2)).trans c8_2
                  refine hK.out _ _ (below_next hHeld (Nat.le_refl _) bN3) (fun hHeld2 => ?_)
                  clear hK K hHeld
                  have hHeld := hHeld2
                  clear hHeld2
                  try simp only [Act.put, List.setIfInBounds_toArray, List.set_cons_zero, List.set_cons_succ, List.getElem_toArray, List.getElem_cons_zero, List.getElem_cons_succ]
                  refine wpAnyH_ready (rs := [7]) (by kernel_rfl) (by simp) ?_
                  refine AllReadyH.cons rfl (fun K hK => ?_) AllReadyH.nil
                  go_simp
                  go_at_call 15
                  refine (copyQ_at (some ⟨bq, oq, none⟩) QC 3 (qOf I) _ (HQP.out.next hHeld) (by rw [qOf_len]; omega) (fun q hq => by have := lenQ_mem hq; have := HQT.out; omega) rfl).mono ?_
                  rintro e N4 ⟨v7, rfl, F7, _, bN4⟩
                  obtain ⟨A7, C7, rfl, _⟩ := F7.qarr
                  go_wp2_with fail
                  have c8_4 := (bN4.cell (p := ⟨_, 0, none⟩) (cell_lt c8_3)).trans c8_3
                  have F5_4 := ownsRow_keep F5 (w' := N4) fun g _ _ hl => bN4.block g hl
                  refine hK.out _ _ (below_next hHeld (Nat.le_refl _) bN4) (fun hHeld2 => ?_)
                  clear hK K hHeld
                  have hHeld := hHeld2
                  clear hHeld2
                  try simp only [Act.put, List.setIfInBounds_toArray, List.set_cons_zero, List.set_cons_succ, List.getElem_toArray, List.getElem_cons_zero, List.getElem_cons_succ]
                  refine wpAnyH_ready (rs := [9]) (by kernel_rfl) (by simp) ?_
                  refine AllReadyH.cons rfl (fun K hK => ?_) AllReadyH.nil
                  have hHeldLO : P0.heap.size ≤ N3.heap.size := Nat.le_trans (Nat.le_trans (Nat.le_trans (Nat.le_refl _) bN1.size) bN2.size) bN3.size
                  obtain ⟨V7, r1, r2, r3⟩ := F7
                  rw [if_pos (by rfl)]
                  refine wp_append_at _ (.tmp 78) (.tmp 79) 26 rfl N3.heap.size 31 j0 _ 1 24 Try.underlying26 hj0 hy0 hy1 hy2 rfl (by decide) (.slice A7 (qOf I).length C7) (qOf I).length ((List.range (qOf I).length).map V7) rfl r1 ⟨N1.heap.size, 0, none⟩ 1 1 [.slice none 0 0] rfl rfl (one_news c8_4) (by simp [Value.oneCell']) (by rw [qOf_len]; simp only [maxLen]; decide) (by rw [qOf_len]; decide) (Nat.le_trans (Nat.le_refl _) bN4.size) ?_
                  intro v9 N5 F9 g9 _
                  obtain ⟨A9, C9, rfl, _⟩ := row_slice F9
                  have Q9 : QArr N5 (Lt N5.heap.size) A9 C9 (qOf I ++ [[]]) := qarr_push r1 r2 g9 rfl F9
                  have F5e := ownsRow_keep F5_4 (w' := N5) fun g hg _ hl => g9.block g hl (fun e => by have h1 := (r1.lt g e.symm).1; have h2 := (F5.lt g hg).2; omega)
                  refine hK.out _ _ (hHeld.grown g9 hHeld.size (fun k hk => Nat.le_trans (Nat.le_trans hHeldLO (Nat.le_refl _)) (r1.lt k hk).1)) (fun hHeld2 => ?_)
                  clear hK K hHeld
                  have hHeld := hHeld2
                  clear hHeld2
                  try simp only [Act.put, List.setIfInBounds_toArray, List.set_cons_zero, List.set_cons_succ, List.getElem_toArray, List.getElem_cons_zero, List.getElem_cons_succ]
                  have Z := Lib.hid (bat_q (X := P0) (L := N5) hHeld HQP.out HQT.out (Nat.le_trans hI17 (by decide)) HRP.out rfl (Nat.le_trans HSL.out.2 (by decide)) HFP.out rfl HLF.out (qarr_cons (w := P0) HVQ.out hHeld rfl F5e) (by rfl) Q9 (by rfl))
                  refine wpAnyH_ready (rs := [12]) (by kernel_rfl) (by simp) ?_
                  refine AllReadyH.cons rfl (fun K hK => ?_) AllReadyH.nil
                  go_simp
                  refine hK.out _ _ (hHeld.alloc hHeld.size _) (fun hHeld2 => ?_)
                  clear hK K hHeld
                  have hHeld := hHeld2
                  clear hHeld2
                  try simp only [Act.put, List.setIfInBounds_toArray, List.set_cons_zero, List.set_cons_succ, List.getElem_toArray, List.getElem_cons_zero, List.getElem_cons_succ]
                  (refine wpAnyH_take (i := 13) (v := ?_) rfl (by kernel_rfl) (by kernel_rfl) (by kernel_rfl) (fun _ _ _ h => h) (Or.inl ⟨by rfl, ?_⟩) (by assumption) ?_; rotate_left 1; (focus (intro w' hSw; (try dsimp only at hSw); go_simp; (try with_reducible rfl); done)); try simp only [Act.put, List.setIfInBounds_toArray, List.set_cons_zero, List.set_cons_succ, List.getElem_toArray, List.getElem_cons_zero, List.getElem_cons_succ])
    
                  refine wpAnyH_done (by kernel_rfl) ?_ _
                  clear hHeld
                  go_wp2
                  go_meet
                  exact ⟨rfl, rfl, _, rfl, Z.out⟩
              · go_simp
                obtain ⟨N1, hN1⟩ : ∃ W', W' = World.drew (World.alloc P0 (.cells #[.slice none 0 0] 31)) := ⟨_, rfl⟩
                rw [← hN1]
                have bN1 : Below P0.heap.size P0.drew N1 := by rw [hN1]; exact (show Below P0.heap.size P0.drew (World.alloc P0.drew (.cells #[.slice none 0 0] 31)) from (Below.refl P0.heap.size P0.drew).alloc (Nat.le_refl P0.heap.size) _)
                have c8_1 : N1.cell? ⟨P0.heap.size, 0, none⟩ = some (.slice none 0 0) := by rw [hN1]; exact (Blk.new P0.drew 31 #[.slice none 0 0]).cell 0
                clear hN1
                refine hK.out _ _ (below_next hHeld (Nat.le_refl _) bN1) (fun hHeld2 => ?_)
                clear hK K hHeld
                have hHeld := hHeld2
                clear hHeld2
                try simp only [Act.put, List.setIfInBounds_toArray, List.set_cons_zero, List.set_cons_succ, List.getElem_toArray, List.getElem_cons_zero, List.getElem_cons_succ]
                refine wpAnyH_ready (rs := [3]) (by kernel_rfl) (by simp) ?_
                refine AllReadyH.cons rfl (fun K hK => ?_) AllReadyH.nil
                go_simp
                obtain ⟨N2, hN2⟩ : ∃ W', W' = World.alloc N1 (.cells #[.slice none 0 0] 31) := ⟨_, rfl⟩
                rw [← hN2]
                have bN2 : Below N1.heap.size N1 N2 := by rw [hN2]; exact (Below.refl _ _).alloc (Nat.le_refl _) _
                have c3_2 : N2.cell? ⟨N1.heap.size, 0, none⟩ = some (.slice none 0 0) := by rw [hN2]; exact (Blk.new N1 31 #[.slice none 0 0]).cell 0
                clear hN2
                have c8_2 := (bN2.cell (p := ⟨_, 0, none⟩) (cell_lt c8_1)).trans c8_1
                refine hK.out _ _ (below_next hHeld (Nat.le_refl _) bN2) (fun hHeld2 => ?_)
                clear hK K hHeld
                have hHeld := hHeld2
                clear hHeld2
                try simp only [Act.put, List.setIfInBounds_toArray, List.set_cons_zero, List.set_cons_succ, List.getElem_toArray, List.getElem_cons_zero, List.getElem_cons_succ]
                refine wpAnyH_ready (rs := [5]) (by kernel_rfl) (by simp) ?_
                refine AllReadyH.cons rfl (fun K hK => ?_) AllReadyH.nil
                rw [if_pos (by rfl)]
                refine wp_append_fresh _ (.tmp 74) (.tmp 75) 26 rfl 31 j0 _ 1 24 Try.underlying26 hj0 hy0 hy1 hy2 rfl (by decide) ⟨N1.heap.size, 0, none⟩ 1 1 [.slice none 0 0] rfl rfl (one_news c3_2) ⟨bq, oq, none⟩ 3 QC vs rfl (by rw [HVL.out]; rfl) (fun j u hu => by rw [add_at]; exact (hHeld.cell (p := ⟨bq, oq + j, none⟩) hbq).trans (HVS.out j u hu).1) (by decide) (by simp only [maxLen]; decide) (by decide) ?_
                intro v5 N3 F5 bN3
                obtain ⟨A5, C5, rfl, _⟩ := row_slice F5
                have c8_3 := (bN3.cell (p := ⟨_, 0, none⟩) (cell_lt c8_2)).trans c8_2
                refine hK.out _ _ (below_next hHeld (Nat.le_refl _) bN3) (fun hHeld2 => ?_)
                clear hK K hHeld
                have hHeld := hHeld2
                clear hHeld2
                try simp only [Act.put, List.setIfInBounds_toArray, List.set_cons_zero, List.set_cons_succ, List.getElem_toArray, List.getElem_cons_zero, List.getElem_cons_succ]
                refine wpAnyH_ready (rs := [7]) (by kernel_rfl) (by simp) ?_
                refine AllReadyH.cons rfl (fun K hK => ?_) AllReadyH.nil
                go_simp
                go_at_call 15
                refine (copyQ_at (some ⟨bq, oq, none⟩) QC 3 (qOf I) _ (HQP.out.next hHeld) (by rw [qOf_len]; omega) (fun q hq => by have := lenQ_mem hq; have := HQT.out; omega) rfl).mono ?_
                rintro e N4 ⟨v7, rfl, F7, _, bN4⟩
                obtain ⟨A7, C7, rfl, _⟩ := F7.qarr
                go_wp2_with fail
                have c8_4 := (bN4.cell (p := ⟨_, 0, none⟩) (cell_lt c8_3)).trans c8_3
                have F5_4 := ownsRow_keep F5 (w' := N4) fun g _ _ hl => bN4.block g hl
                refine hK.out _ _ (below_next hHeld (Nat.le_refl _) bN4) (fun hHeld2 => ?_)
                clear hK K hHeld
                have hHeld := hHeld2
                clear hHeld2
                try simp only [Act.put, List.setIfInBounds_toArray, List.set_cons_zero, List.set_cons_succ, List.getElem_toArray, List.getElem_cons_zero, List.getElem_cons_succ]
                refine wpAnyH_ready (rs := [9]) (by kernel_rfl) (by simp) ?_
                refine AllReadyH.cons rfl (fun K hK => ?_) AllReadyH.nil
                have hHeldLO : P0.heap.size ≤ N3.heap.size := Nat.le_trans (Nat.le_trans (Nat.le_trans (Nat.le_refl _) bN1.size) bN2.size) bN3.size
                obtain ⟨V7, r1, r2, r3⟩ := F7
                rw [if_pos (by rfl)]
                refine wp_append_at _ (.tmp 78) (.tmp 79) 26 rfl N3.heap.size 31 j0 _ 1 24 Try.underlying26 hj0 hy0 hy1 hy2 rfl (by decide) (.slice A7 (qOf I).length C7) (qOf I).length ((List.range (qOf I).length).map V7) rfl r1 ⟨P0.drew.heap.size, 0, none⟩ 1 1 [.slice none 0 0] rfl rfl (one_news c8_4) (by simp [Value.oneCell']) (by rw [qOf_len]; simp only [maxLen]; decide) (by rw [qOf_len]; decide) (Nat.le_trans (Nat.le_refl _) bN4.size) ?_
                intro v9 N5 F9 g9 _
                obtain ⟨A9, C9, rfl, _⟩ := row_slice F9
                have Q9 : QArr N5 (Lt N5.heap.size) A9 C9 (qOf I ++ [[]]) := qarr_push r1 r2 g9 rfl F9
                have F5e := ownsRow_keep F5_4 (w' := N5) fun g hg _ hl => g9.block g hl (fun e => by have h1 := (r1.lt g e.symm).1; have h2 := (F5.lt g hg).2; omega)
                refine hK.out _ _ (hHeld.grown g9 hHeld.size (fun k hk => Nat.le_trans (Nat.le_trans hHeldLO (Nat.le_refl _)) (r1.lt k hk).1)) (fun hHeld2 => ?_)
                clear hK K hHeld
                have hHeld := hHeld2
                clear hHeld2
                try simp only [Act.put, List.setIfInBounds_toArray, List.set_cons_zero, List.set_cons_succ, List.getElem_toArray, List.getElem_cons_zero, List.getElem_cons_succ]
                have Z := Lib.hid (bat_q (X := P0) (L := N5) hHeld HQP.out HQT.out (Nat.le_trans hI17 (by decide)) HRP.out rfl (Nat.le_trans HSL.out.2 (by decide)) HFP.out rfl HLF.out (qarr_cons (w := P0) HVQ.out hHeld rfl F5e) (by rfl) Q9 (by rfl))
                refine wpAnyH_ready (rs := [12]) (by kernel_rfl) (by simp) ?_
                refine AllReadyH.cons rfl (fun K hK => ?_) AllReadyH.nil
                go_simp
                refine hK.out _ _ (hHeld.alloc hHeld.size _) (fun hHeld2 => ?_)
                clear hK K hHeld
                have hHeld := hHeld2
                clear hHeld2
                try simp only [Act.put, List.setIfInBounds_toArray, List.set_cons_zero, List.set_cons_succ, List.getElem_toArray, List.getElem_cons_zero, List.getElem_cons_succ]
                (refine wpAnyH_take (i := 13) (v := ?_) rfl (by kernel_rfl) (by kernel_rfl) (by kernel_rfl) (fun _ _ _ h => h) (Or.inl ⟨by rfl, ?_⟩) (by assumption) ?_; rotate_left 1; (focus (intro w' hSw; (try dsimp only at hSw); go_simp; (try with_reducible rfl); done)); try simp only [Act.put, List.setIfInBounds_toArray, List.set_cons_zero, List.set_cons_succ, List.getElem_toArray, List.getElem_cons_zero, List.getElem_cons_succ])
  
                refine wpAnyH_done (by kernel_rfl) ?_ _
                clear hHeld
                go_wp2
                go_meet
                exact ⟨rfl, rfl, _, rfl, Z.out⟩
            case rest =>
              obtain ⟨P, rfl⟩ : ∃ P, P = wc := ⟨_, rfl⟩
              obtain ⟨rfl, rfl, Q2, rfl, hRows, hQ2, hbP⟩ := hcut
              have HROW := Lib.hid hRows
              have BXP := Lib.hid (BP.out.next hbP)
              have HAP := Lib.hid (HVA.out.next hbP)
              have HTP := Lib.hid (HVT.out.next hbP)
              have HBP := Lib.hid (below_next HBP0.out (Nat.le_refl _) hbP)
              clear hRows hbP HVA HVT BP HBP0 HQP HRP HFP
              go_wp2_with fail
              go_loopw [85] (fun i wr2 => ∃ l : Nat, l ≤ 6 ∧ i = .int .i64 l ∧ Below P.heap.size P wr2) (fun i _ => 6 - (intOf i).toNat)
              case atStart => exact ⟨0, Nat.zero_le _, rfl, Below.refl _ _⟩
              case round =>
                obtain ⟨W0, rfl⟩ : ∃ W0, W0 = wr := ⟨_, rfl⟩
                obtain ⟨l, hl, rfl, hb⟩ := hrel
                by_cases hll : l < 6
                · obtain ⟨YA, yn, YC, YQ, x0, hyn, hyq, hyl⟩ := HROW.out l hll
                  have x0' := (hb.cell (p := ⟨Q2, l, none⟩) hQ2).trans x0
                  have zq2 : Q2 < W0.heap.size := Nat.lt_of_lt_of_le hQ2 hb.size
                  have hl2 : 0 ≤ (l : Int) ∧ (l : Int) < 6 := by omega
                  have HYQ := Lib.hid (hyq.next hb)
                  have HYN := Lib.hid hyn
                  have HYL := Lib.hid hyl
                  have BXW := Lib.hid (BXP.out.next hb)
                  have HA1 := Lib.hid (HAP.out.next hb)
                  have HT1 := Lib.hid (HTP.out.next hb)
                  have K1 := Lib.hid hb
                  obtain ⟨bv, hbv⟩ : ∃ bv : Bool, bv = true ↔ ValQ s nw wdx n Fx YQ := ⟨@decide _ (Classical.propDecidable _), @decide_eq_true_iff _ (Classical.propDecidable _)⟩
                  have HBV2 := Lib.hid hbv
                  clear hb x0 hyn hyq hyl hbv
                  have p0 := BXW.out.cell 0
                  have p1 := BXW.out.cell 1
                  have p2 := BXW.out.cell 2
                  simp at p0 p1 p2
                  have zbx : RW.heap.size < W0.heap.size := BXW.out.lt
                  have hc : Below W0.heap.size W0 W0.drew := (Below.refl _ _).drew
                  go_upto_region 14 with fail
                  go_region_held3 (fun w' => w'.cell? ⟨RW.heap.size, 0, none⟩ = some (.int .i64 s) ∧ w'.cell? ⟨RW.heap.size, 1, none⟩ = some (.slice A nw c) ∧ w'.cell? ⟨RW.heap.size, 2, none⟩ = some (.slice A' n c'))
                    (first | (with_reducible exact ⟨(hc.cell (p := ⟨_, 0, none⟩) zbx).trans p0, (hc.cell (p := ⟨_, 1, none⟩) zbx).trans p1, (hc.cell (p := ⟨_, 2, none⟩) zbx).trans p2⟩))
                    (first
                      | (go_at_call 16; refine (beltValid_at s A A' nw c n c' wdx Fx YA YC yn YQ _ (HA1.out.next hc) (HT1.out.next hc) (HYQ.out.next hc) HYN.out).mono ?_; rintro e wq ⟨r, rfl, hr, hb⟩; have hrt : bv = r := Bool.eq_iff_iff.2 (HBV2.out.trans hr.symm); subst hrt; clear hr; have hc := below_next hc (Nat.le_refl _) hb)
                      | (go_at_call 17; refine (refBelt_at s A A' nw c n c' wdx Fx YA YC yn YQ _ (HA1.out.next hc) (HT1.out.next hc) (HYQ.out.next hc) HYL.out HYN.out).mono ?_; rintro e wq ⟨r, rfl, hr, hb⟩; have hrt : bv = r := Bool.eq_iff_iff.2 (HBV2.out.trans hr.symm); subst hrt; clear hr; have hc := below_next hc (Nat.le_refl _) hb))
                  all_goals
                    have K2 := Lib.hid (below_next K1.out (Nat.le_refl _) hc)
                    clear hc
                    go_wp2
                    exact ⟨⟨l + 1, by omega, by go_num, K2.out⟩, by simp [intOf]; omega⟩
                · obtain rfl : l = 6 := by omega
                  have K2 := Lib.hid (below_next HBP.out (Nat.le_refl _) hb)
                  clear hb
                  go_wp2
                  exact ⟨⟨j + 1, by omega, by go_num, K2.out⟩, by simp [intOf]; omega⟩
          · obtain rfl : j = 3 := by omega
            have HQW := Lib.hid (HQC.out.next hb)
            have BYW := Lib.hid ((BYX.out.next HCV.out).next hb)
            have HLW := Lib.hid ((HLAX.out.next HCV.out).next hb)
            have HBW := Lib.hid (below_next (below_next HBX.out (Nat.le_refl _) HCV.out) (Nat.le_refl _) hb)
            clear hb
            have q0 := BYW.out.cell 0
            have q1 := BYW.out.cell 1
            have q2 := BYW.out.cell 2
            simp at q0 q1 q2
            have zy : SB < RW.heap.size := BYW.out.lt
            have hc : Below RW.heap.size RW RW.drew := (Below.refl _ _).drew
            clear HQC HRC HFC HBX HCV BYX HSAX HSTX HLAX HSAT
            go_upto_region 18 with fail
            go_region_held3 (fun w' => w'.cell? ⟨SB, 0, none⟩ = some (.int .i64 K) ∧ w'.cell? ⟨SB, 1, none⟩ = some (.slice B mk d) ∧ w'.cell? ⟨SB, 2, none⟩ = some (.slice (some ⟨gb, 0, none⟩) m d'))
              (first | (with_reducible exact ⟨(hc.cell (p := ⟨_, 0, none⟩) zy).trans q0, (hc.cell (p := ⟨_, 1, none⟩) zy).trans q1, (hc.cell (p := ⟨_, 2, none⟩) zy).trans q2⟩))
              (first
                | (go_at_call 18; refine (words_at QA QC 3 (qOf I) _ (HQW.out.next hc) rfl).mono ?_; rintro e wq ⟨rfl, hb⟩; have hc := below_next hc (Nat.le_refl _) hb)
                | (go_at_call 19; refine (refWords_at QA QC 3 (qOf I) _ (HQW.out.next hc) rfl).mono ?_; rintro e wq ⟨rfl, hb⟩; have hc := below_next hc (Nat.le_refl _) hb)
                | (go_at_call 20; refine (largest_at K (.slice B mk d) (.slice (some ⟨gb, 0, none⟩) m d') QA QC 3 (qOf I) _ _ (HQW.out.next hc) rfl rfl).mono ?_; rintro e wq ⟨rfl, hb⟩; have hc := below_next hc (Nat.le_refl _) hb)
                | (go_at_call 21; refine (refLargest_at K (.slice B mk d) (.slice (some ⟨gb, 0, none⟩) m d') QA QC 3 (qOf I) _ (HQW.out.next hc) rfl).mono ?_; rintro e wq ⟨rfl, hb⟩; have hc := below_next hc (Nat.le_refl _) hb))
            all_goals
              obtain ⟨E0, rfl⟩ : ∃ E, E = wq := ⟨_, rfl⟩
              have HBE := Lib.hid (below_next HBW.out (Nat.le_refl _) hc)
              have BYE := Lib.hid (BYW.out.next hc)
              have HLE := Lib.hid (HLW.out.next hc)
              clear hc HQW BYW HLW HBW q0 q1 q2 zy
              go_wp2_with fail
              go_loopw [114] (fun i wr2 => ∃ l : Nat, l ≤ li ∧ i = .int .i64 l ∧ Below E0.heap.size E0 wr2) (fun i _ => li - (intOf i).toNat)
              case atStart => exact ⟨0, Nat.zero_le _, rfl, Below.refl _ _⟩
              case round =>
                obtain ⟨W0, rfl⟩ : ∃ W0, W0 = wr := ⟨_, rfl⟩
                obtain ⟨l, hl, rfl, hb⟩ := hrel
                by_cases hll : l < li
                · obtain ⟨i, hi⟩ := nth_of (show l < I.length by have := HLI.out; omega)
                  have HLX := Lib.hid (HLE.out.next hb)
                  obtain ⟨gl, ol, hLA, _, hgl, x0, x1, x2, x3, x4⟩ := HLX.out.at_ hi
                  subst hLA
                  have hl2 : 0 ≤ (l : Int) ∧ (l : Int) < li := by omega
                  clear hi
                  go_wp2_with fail
                  obtain ⟨V9, hV9⟩ : ∃ V, V = W0.alloc (.cells #[.int .i64 i.sq, .int .i64 i.bt, .int .i64 i.fi, .int .i64 i.la, .int .i64 i.wo] 41) := ⟨_, rfl⟩
                  have hbv : Below W0.heap.size W0 V9 := by rw [hV9]; exact (Below.refl _ _).alloc (Nat.le_refl _) _
                  have hbx : Blk V9 W0.heap.size 41 #[.int .i64 i.sq, .int .i64 i.bt, .int .i64 i.fi, .int .i64 i.la, .int .i64 i.wo] := by rw [hV9]; exact Blk.new _ _ _
                  have p0 := hbx.cell 0
                  have p1 := hbx.cell 1
                  have p2 := hbx.cell 2
                  have p3 := hbx.cell 3
                  have p4 := hbx.cell 4
                  simp at p0 p1 p2 p3 p4
                  have zp : W0.heap.size < V9.heap.size := hbx.lt
                  have BYV := (BYE.out.next hb).next hbv
                  have q0 := BYV.cell 0
                  have q1 := BYV.cell 1
                  have q2 := BYV.cell 2
                  simp at q0 q1 q2
                  have zy : SB < V9.heap.size := BYV.lt
                  have HB9 := Lib.hid (below_next hb (Nat.le_refl _) hbv)
                  have hc : Below V9.heap.size V9 V9.drew := (Below.refl _ _).drew
                  rw [← hV9]
                  clear hb hbv hbx hV9 BYV x0 x1 x2 x3 x4
                  refine (mod_any by_ 5 (by omega) (by omega) e0 e1 V9).mono ?_
                  rintro e V8 ⟨rfl, rfl⟩
                  go_upto_region 24 with fail
                  obtain ⟨k5, hk5⟩ : ∃ k, k = by_ % 5 := ⟨_, rfl⟩
                  rw [← hk5]
                  obtain ⟨bo, hbo⟩ : ∃ b, opnB K i.wo k5 = b := ⟨_, rfl⟩
                  have HBO := Lib.hid hbo
                  clear hbo hk5
                  go_region_held3 (fun w' => w'.cell? ⟨SB, 0, none⟩ = some (.int .i64 K) ∧ w'.cell? ⟨SB, 1, none⟩ = some (.slice B mk d) ∧ w'.cell? ⟨SB, 2, none⟩ = some (.slice (some ⟨gb, 0, none⟩) m d') ∧ w'.cell? ⟨W0.heap.size, 0, none⟩ = some (.int .i64 i.sq) ∧ w'.cell? ⟨W0.heap.size, 1, none⟩ = some (.int .i64 i.bt) ∧ w'.cell? ⟨W0.heap.size, 2, none⟩ = some (.int .i64 i.fi) ∧ w'.cell? ⟨W0.heap.size, 3, none⟩ = some (.int .i64 i.la) ∧ w'.cell? ⟨W0.heap.size, 4, none⟩ = some (.int .i64 i.wo))
                    (first | (with_reducible exact ⟨(hc.cell (p := ⟨_, 0, none⟩) zy).trans q0, (hc.cell (p := ⟨_, 1, none⟩) zy).trans q1, (hc.cell (p := ⟨_, 2, none⟩) zy).trans q2, (hc.cell (p := ⟨_, 0, none⟩) zp).trans p0, (hc.cell (p := ⟨_, 1, none⟩) zp).trans p1, (hc.cell (p := ⟨_, 2, none⟩) zp).trans p2, (hc.cell (p := ⟨_, 3, none⟩) zp).trans p3, (hc.cell (p := ⟨_, 4, none⟩) zp).trans p4⟩))
                    (first
                      | (go_at_call 22; refine (open_at K i.wo k5 bo (.slice B mk d) (.slice (some ⟨gb, 0, none⟩) m d') i.sq i.bt i.fi i.la _ HBO.out).mono ?_; rintro e wq ⟨rfl, hb⟩; have hc := below_next hc (Nat.le_refl _) hb)
                      | (go_at_call 23; refine (refOpen_at K i.wo k5 bo (.slice B mk d) (.slice (some ⟨gb, 0, none⟩) m d') i.sq i.bt i.fi i.la _ HBO.out).mono ?_; rintro e wq ⟨rfl, hb⟩; have hc := below_next hc (Nat.le_refl _) hb))
                  all_goals
                    have K2 := Lib.hid (below_next HB9.out (Nat.le_refl _) hc)
                    clear hc
                    go_wp2
                    exact ⟨⟨l + 1, by omega, by go_num, K2.out⟩, by simp [intOf]; omega⟩
                · obtain rfl : l = li := by omega
                  have HB4 := Lib.hid (below_next HBE.out (Nat.le_refl _) hb)
                  clear hb
                  go_wp2_with fail
                  refine (awake11_any W0).mono ?_
                  rintro e w6 ⟨rfl, b6⟩
                  have HB6 := Lib.hid b6
                  clear b6
                  go_wp2
                  go_ret
                  exact ⟨rfl, below_next HB4.out (Nat.le_refl _) HB6.out⟩
end Go.Proofs.Ytkknmphigpcjjaa
