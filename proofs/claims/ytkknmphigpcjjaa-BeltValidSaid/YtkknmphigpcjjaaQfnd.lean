/-
  Where increments are found in belts: IndexFunc with indexOf's closure, position, Find, isBelt, Oldest, Youngest.
-/
import Derived.Test.YtkknmphigpcjjaaQwrd
import Derived.Test.YtkknmphigpcjjaaQsnd
namespace Go.Proofs.Ytkknmphigpcjjaa
open Go.RowKit
set_option maxRecDepth 100000
set_option linter.unusedVariables false

theorem nth_of {α : Type} {l : List α} {j : Nat} (h : j < l.length) : ∃ x, l[j]? = some x := ⟨l[j], List.getElem?_eq_getElem h⟩

theorem pred11_any (x0 x1 x2 x3 x4 x : Int) (p1 : Nat) (w : World) (h1 : w.cell? ⟨p1, 0, none⟩ = some (.int .i64 x)) :
    Calls Try.prog 78 #[.agg #[.int .i64 x0, .int .i64 x1, .int .i64 x2, .int .i64 x3, .int .i64 x4], .pointer (some ⟨p1, 0, none⟩)] w
      fun e w' => e = .returned (.bool (x0 == x)) ∧ Below w.heap.size w w' := by
  have l1 := cell_lt h1
  cases hq : (x0 == x)
  all_goals
    go_enter Try.func78, Try.ntmps78
    go_wp2
    go_ret
    exact ⟨rfl, (Below.refl _ _).alloc (Nat.le_refl _) _⟩

/-- Where an increment with this number stands in a queue, if it does. -/
def IdxP (q : List IncR) (x k : Int) : Prop := (k = -1 ∧ ∀ i ∈ q, i.sq ≠ x) ∨ ∃ (t : Nat) (i : IncR), k = t ∧ q[t]? = some i ∧ i.sq = x

set_option maxHeartbeats 1000000 in
theorem indexFunc11_any (A : Option Addr) (c p1 : Nat) (q : List IncR) (x : Int) (w : World) (hL : LArr w (Lt w.heap.size) A c q) (h1 : w.cell? ⟨p1, 0, none⟩ = some (.int .i64 x)) :
    Calls Try.prog 77 #[.slice A q.length c, .func (.func 78) #[] #[.pointer (some ⟨p1, 0, none⟩)]] w
      fun e w' => (∃ k : Int, e = .returned (.int .i64 k) ∧ IdxP q x k) ∧ Below w.heap.size w w' := by
  have HL := Lib.hid hL
  have H1 := Lib.hid h1
  have l1 := cell_lt h1
  have hm := hL.2.1
  have hm' := hL.1
  simp only [maxLen] at hm
  clear hL h1
  go_enter Try.func77, Try.ntmps77
  go_wp2
  go_loopw [8] (fun i wr => ∃ t : Nat, t ≤ q.length ∧ i = .int .i64 t ∧ (∀ j i, j < t → q[j]? = some i → i.sq ≠ x) ∧ Below w.heap.size w wr) (fun i _ => q.length - (intOf i).toNat)
  case atStart => exact ⟨0, by omega, rfl, fun j i hj => by omega, Below.refl _ _⟩
  case round =>
    obtain ⟨t, ht, rfl, hno, hb⟩ := hrel
    have HN := Lib.hid hno
    have HB := Lib.hid hb
    clear hno hb
    by_cases hlt : t < q.length
    · have hlt2 : 0 ≤ (t : Int) ∧ (t : Int) < q.length := by omega
      obtain ⟨i, hi⟩ := nth_of hlt
      obtain ⟨b, o, rfl, hP, hbz, d0, d1, d2, d3, d4⟩ := (HL.out.below HB.out).at_ hi
      have HP : Hid (wr.cell? ⟨p1, 0, none⟩ = some (.int .i64 x)) := Lib.hid ((HB.out.cell (p := ⟨p1, 0, none⟩) l1).trans H1.out)
      obtain ⟨x0, hx0⟩ : ∃ x, x = i.sq := ⟨_, rfl⟩
      obtain ⟨x1, hx1⟩ : ∃ x, x = i.bt := ⟨_, rfl⟩
      obtain ⟨x2, hx2⟩ : ∃ x, x = i.fi := ⟨_, rfl⟩
      obtain ⟨x3, hx3⟩ : ∃ x, x = i.la := ⟨_, rfl⟩
      obtain ⟨x4, hx4⟩ : ∃ x, x = i.wo := ⟨_, rfl⟩
      rw [← hx0] at d0
      rw [← hx1] at d1
      rw [← hx2] at d2
      rw [← hx3] at d3
      rw [← hx4] at d4
      have HI := Lib.hid hi
      have HX := Lib.hid hx0
      clear hi hP hx0 hx1 hx2 hx3 hx4
      cases hq : (x0 == x) with
      | true =>
        have HQ2 := Lib.hid hq
        have hqe : x0 = x := by simpa using hq
        have HQE := Lib.hid hqe
        clear hq hqe
        go_wp2_with (go_at_call 78; refine (pred11_any x0 x1 x2 x3 x4 x p1 _ HP.out).mono ?_; rintro e w1 ⟨rfl, hb1⟩; rw [HQ2.out])
        go_ret
        exact ⟨⟨t, rfl, .inr ⟨t, i, rfl, HI.out, by rw [← HX.out, HQE.out]⟩⟩, below_next HB.out (Nat.le_refl _) hb1⟩
      | false =>
        have HQ2 := Lib.hid hq
        have hqe : x0 ≠ x := by simpa using hq
        have HQE := Lib.hid hqe
        clear hq hqe
        go_wp2_with (go_at_call 78; refine (pred11_any x0 x1 x2 x3 x4 x p1 _ HP.out).mono ?_; rintro e w1 ⟨rfl, hb1⟩; rw [HQ2.out])
        refine ⟨⟨t + 1, by omega, by go_num, fun j y hj hy => ?_, below_next HB.out (Nat.le_refl _) hb1⟩, by simp [intOf]; omega⟩
        rcases (by omega : j < t ∨ j = t) with h | h
        · exact HN.out j y h hy
        · subst h
          rw [HI.out] at hy
          injection hy with hy
          rw [← hy, ← HX.out]
          exact HQE.out
    · have hlt2 : ¬ (t : Int) < q.length := by omega
      have HE := Lib.hid (show ∀ i ∈ q, i.sq ≠ x from fun i hi => by
        obtain ⟨j, hj⟩ := List.mem_iff_getElem?.1 hi
        exact HN.out j i (by have := get_lt hj; omega) hj)
      go_wp2
      go_ret
      exact ⟨⟨-1, rfl, .inl ⟨rfl, HE.out⟩⟩, HB.out⟩

theorem indexOf11_any (A : Option Addr) (c : Nat) (q : List IncR) (x : Int) (w : World) (hL : LArr w (Lt w.heap.size) A c q) :
    Calls Try.prog 64 #[.slice A q.length c, .int .i64 x] w fun e w' => (∃ k : Int, e = .returned (.int .i64 k) ∧ IdxP q x k) ∧ Below w.heap.size w w' := by
  obtain ⟨U, hU⟩ : ∃ U, U = w.alloc (.cells #[.int .i64 x] 3) := ⟨_, rfl⟩
  have B1 : Blk U w.heap.size 3 #[.int .i64 x] := by rw [hU]; exact Blk.new _ _ _
  have HBU : Hid (Below w.heap.size w U) := by rw [hU]; exact (Below.refl _ _).alloc (Nat.le_refl _) _
  have HL := Lib.hid (hL.next HBU.out)
  have HU := Lib.hid hU
  have q1 := B1.cell 0
  simp at q1
  have Q1 := Lib.hid q1
  clear hL hU q1
  go_enter Try.func64, Try.ntmps64
  go_wp2_with (go_at_call 77; rw [← HU.out]; refine (indexFunc11_any A c _ q x U HL.out Q1.out).mono ?_; rintro e w1 ⟨⟨k, rfl, hk⟩, hb1⟩)
  go_ret
  exact ⟨⟨k, rfl, hk⟩, below_next HBU.out (Nat.le_refl _) hb1⟩

/-- Where an increment with this number stands in belts, if it does. -/
def PosP (Q : List (List IncR)) (x b k : Int) (f : Bool) : Prop := (b = 0 ∧ k = 0 ∧ f = false ∧ ¬ HasQ Q x) ∨ ∃ (s t : Nat) (q : List IncR) (i : IncR), b = s ∧ k = t ∧ f = true ∧ Q[s]? = some q ∧ q[t]? = some i ∧ i.sq = x
theorem PosP.has {Q : List (List IncR)} {x b k : Int} {f : Bool} (h : PosP Q x b k f) : f = true ↔ HasQ Q x := by
  rcases h with ⟨_, _, rfl, h⟩ | ⟨s, t, q, i, _, _, rfl, h1, h2, h3⟩
  · exact ⟨fun e => (by cases e), fun e => absurd e h⟩
  · exact ⟨fun _ => ⟨q, List.mem_iff_getElem?.2 ⟨s, h1⟩, i, List.mem_iff_getElem?.2 ⟨t, h2⟩, h3⟩, fun _ => rfl⟩

def PosOf (Q : List (List IncR)) (x : Int) (w : World) (e : Ending) (w' : World) : Prop := (∃ (b k : Int) (f : Bool), e = .returned (.tuple #[.int .i64 b, .int .i64 k, .bool f]) ∧ PosP Q x b k f) ∧ Below w.heap.size w w'

set_option maxHeartbeats 1000000 in
theorem position_any (A : Option Addr) (c : Nat) (Q : List (List IncR)) (x : Int) (w : World) (hQ : QArr w (Lt w.heap.size) A c Q) :
    Calls Try.prog 44 #[.slice A Q.length c, .int .i64 x] w (PosOf Q x w) := by
  have HQ := Lib.hid hQ
  have hm := hQ.2.1
  have hm' := hQ.1
  simp only [maxLen] at hm
  clear hQ
  go_enter Try.func44, Try.ntmps44
  go_wp2_with fail
  go_loopw [12] (fun i wr => ∃ t : Nat, t ≤ Q.length ∧ i = .int .i64 t ∧ (∀ j q, j < t → Q[j]? = some q → ∀ i ∈ q, i.sq ≠ x) ∧ Below w.heap.size w wr) (fun i _ => Q.length - (intOf i).toNat)
  case atStart => exact ⟨0, by omega, rfl, fun j i hj => by omega, Below.refl _ _⟩
  case round =>
    obtain ⟨t, ht, rfl, hno, hb⟩ := hrel
    have HN := Lib.hid hno
    have HB := Lib.hid hb
    clear hno hb
    by_cases hlt : t < Q.length
    · have hlt2 : 0 ≤ (t : Int) ∧ (t : Int) < Q.length := by omega
      obtain ⟨q, hq⟩ := nth_of hlt
      obtain ⟨b, o, A', c', rfl, hP, hbz, c0, hL⟩ := (HQ.out.below HB.out).at_ hq
      have HQE := Lib.hid hq
      have HL := Lib.hid hL.lt
      clear hq hP hL
      go_wp2_with fail
      refine (indexOf11_any A' c' q x _ HL.out).mono ?_
      rintro e w1 ⟨⟨k, rfl, hk⟩, hb1⟩
      rcases hk with ⟨rfl, hk⟩ | ⟨u, i, rfl, hi, hx⟩
      · have HK := Lib.hid hk
        clear hk
        go_wp2
        refine ⟨⟨t + 1, by omega, by go_num, fun j y hj hy => ?_, below_next HB.out (Nat.le_refl _) hb1⟩, by simp [intOf]; omega⟩
        rcases (by omega : j < t ∨ j = t) with h | h
        · exact HN.out j y h hy
        · subst h
          rw [HQE.out] at hy
          injection hy with hy
          subst hy
          exact HK.out
      · have HI := Lib.hid hi
        have hu : 0 ≤ (u : Int) := by omega
        clear hi
        go_wp2
        go_ret3
        exact ⟨⟨t, u, true, rfl, .inr ⟨t, u, q, i, rfl, rfl, rfl, HQE.out, HI.out, hx⟩⟩, below_next HB.out (Nat.le_refl _) hb1⟩
    · have hlt2 : ¬ (t : Int) < Q.length := by omega
      have HE := Lib.hid (show ¬ HasQ Q x by
        rintro ⟨q, hq, i, hi, he⟩
        obtain ⟨j, hj⟩ := List.mem_iff_getElem?.1 hq
        exact HN.out j q (by have := get_lt hj; omega) hj i hi he)
      go_wp2
      go_ret3
      exact ⟨⟨0, 0, false, rfl, .inl ⟨rfl, rfl, rfl, HE.out⟩⟩, HB.out⟩

/-- An increment as a value; the empty one. -/
def IncR.v (i : IncR) : Value := .agg #[.int .i64 i.sq, .int .i64 i.bt, .int .i64 i.fi, .int .i64 i.la, .int .i64 i.wo]
def inc0 : IncR := ⟨0, 0, 0, 0, 0⟩
/-- An increment and whether there is one. -/
def GivesI (o : Option IncR) (w : World) (e : Ending) (w' : World) : Prop := e = .returned (.tuple #[(o.getD inc0).v, .bool o.isSome]) ∧ Below w.heap.size w w'

def FindOf (Q : List (List IncR)) (x : Int) (w : World) (e : Ending) (w' : World) : Prop := ∃ i : IncR, ∃ f : Bool, e = .returned (.tuple #[i.v, .bool f]) ∧ (f = true ↔ HasQ Q x) ∧ Below w.heap.size w w'

set_option maxHeartbeats 1000000 in
theorem find_any (A : Option Addr) (c : Nat) (Q : List (List IncR)) (x : Int) (w : World) (hQ : QArr w (Lt w.heap.size) A c Q) :
    Calls Try.prog 59 #[.slice A Q.length c, .int .i64 x] w (FindOf Q x w) := by
  obtain ⟨U, hU⟩ : ∃ U, U = w.alloc (.cells #[.int .i64 0, .int .i64 0, .int .i64 0, .int .i64 0, .int .i64 0] 41) := ⟨_, rfl⟩
  have BI := Lib.hid (show Blk U w.heap.size 41 #[.int .i64 0, .int .i64 0, .int .i64 0, .int .i64 0, .int .i64 0] by rw [hU]; exact Blk.new _ _ _)
  have HBU : Hid (Below w.heap.size w U) := by rw [hU]; exact (Below.refl _ _).alloc (Nat.le_refl _) _
  have HQ := Lib.hid (hQ.next HBU.out)
  have HU := Lib.hid hU
  clear hQ hU
  go_enter Try.func59, Try.ntmps59
  go_wp2_with fail
  rw [← HU.out]
  refine (position_any A c Q x U HQ.out).mono ?_
  rintro e w1 ⟨⟨b, k, f, rfl, hp⟩, hb1⟩
  have BI1 := BI.out.next hb1
  have f0 := BI1.frozen 0
  have f1 := BI1.frozen 1
  have f2 := BI1.frozen 2
  have f3 := BI1.frozen 3
  have f4 := BI1.frozen 4
  have p0 := BI1.cell 0
  have p1 := BI1.cell 1
  have p2 := BI1.cell 2
  have p3 := BI1.cell 3
  have p4 := BI1.cell 4
  simp at p0 p1 p2 p3 p4
  have HB1 : Hid (Below w.heap.size w w1) := below_next HBU.out (Nat.le_refl _) hb1
  rcases hp with ⟨rfl, rfl, rfl, hn⟩ | ⟨s, t, q, i, rfl, rfl, rfl, h1, h2, h3⟩
  · have HN := Lib.hid hn
    clear hb1 BI1 hn
    go_wp2
    refine bodyPost_ret (v := .tuple #[inc0.v, .bool false]) (by simp [results, Try.results59, go_sem, inc0, IncR.v, p0, p1, p2, p3, p4]) rfl ⟨_, _, rfl, ⟨fun e => (by cases e), fun e => absurd e HN.out⟩, below_put5 HB1.out (Nat.le_refl _) _ _ _ _ _⟩
  · have hs := get_lt h1
    have ht := get_lt h2
    have hs2 : 0 ≤ (s : Int) ∧ (s : Int) < Q.length := by omega
    have ht2 : 0 ≤ (t : Int) ∧ (t : Int) < q.length := by omega
    obtain ⟨b, o, A', c', rfl, hP, hbz, c0, hL⟩ := (HQ.out.next hb1).at_ h1
    obtain ⟨b', o', rfl, hP', hbz', d0, d1, d2, d3, d4⟩ := hL.at_ h2
    have zi : w.heap.size < w1.heap.size := BI1.lt
    have HF : Hid (HasQ Q x) := ⟨q, List.mem_iff_getElem?.2 ⟨s, h1⟩, i, List.mem_iff_getElem?.2 ⟨t, h2⟩, h3⟩
    clear hb1 hP hP' hL h1 h2 h3 BI1
    go_wp2
    refine bodyPost_ret (v := .tuple #[i.v, .bool true]) (by simp [results, Try.results59, go_sem, IncR.v, p0, p1, p2, p3, p4]) rfl ⟨_, _, rfl, ⟨fun _ => HF.out, fun _ => rfl⟩, below_put5 HB1.out (Nat.le_refl _) _ _ _ _ _⟩

/-- Whether b is the index of a belt. -/
def isBQ (n : Nat) (b : Int) : Bool := decide (0 ≤ b) && decide (b < n)
theorem isBelt11_any (A : Option Addr) (c n : Nat) (b : Int) (w : World) :
    Calls Try.prog 47 #[.slice A n c, .int .i64 b] w fun e w' => e = .returned (.bool (isBQ n b)) ∧ w = w' := by
  by_cases h1 : 0 ≤ b
  · by_cases h2 : b < n
    all_goals
      go_enter Try.func47, Try.ntmps47
      go_wp2
      go_ret
      exact ⟨ret_bool (by simp [isBQ]; omega), rfl⟩
  · go_enter Try.func47, Try.ntmps47
    go_wp2
    go_ret
    exact ⟨ret_bool (by simp [isBQ]; omega), rfl⟩

/-- The first, the last increment of a belt. -/
def oldV (Q : List (List IncR)) (b : Nat) : Option IncR := (Q[b]?).bind fun q => q.head?
def youV (Q : List (List IncR)) (b : Nat) : Option IncR := (Q[b]?).bind fun q => q.getLast?

set_option maxHeartbeats 1000000 in
theorem oldest_any (A : Option Addr) (c : Nat) (Q : List (List IncR)) (b : Nat) (w : World) (hQ : QArr w (Lt w.heap.size) A c Q) (hb : b < Q.length) :
    Calls Try.prog 29 #[.slice A Q.length c, .int .i64 b] w (GivesI (oldV Q b) w) := by
  obtain ⟨q, hq⟩ := nth_of hb
  obtain ⟨U, hU⟩ : ∃ U, U = w.alloc (.cells #[.int .i64 0, .int .i64 0, .int .i64 0, .int .i64 0, .int .i64 0] 41) := ⟨_, rfl⟩
  have BI := (show Blk U w.heap.size 41 #[.int .i64 0, .int .i64 0, .int .i64 0, .int .i64 0, .int .i64 0] by rw [hU]; exact Blk.new _ _ _)
  have HBU : Hid (Below w.heap.size w U) := by rw [hU]; exact (Below.refl _ _).alloc (Nat.le_refl _) _
  have HQ := Lib.hid (hQ.next HBU.out)
  have HU := Lib.hid hU
  have hbl : isBQ Q.length b = true := by simp [isBQ]; omega
  have HBL := Lib.hid hbl
  have hb2 : 0 ≤ (b : Int) ∧ (b : Int) < Q.length := by omega
  have f0 := BI.frozen 0
  have f1 := BI.frozen 1
  have f2 := BI.frozen 2
  have f3 := BI.frozen 3
  have f4 := BI.frozen 4
  have p0 := BI.cell 0
  have p1 := BI.cell 1
  have p2 := BI.cell 2
  have p3 := BI.cell 3
  have p4 := BI.cell 4
  simp at p0 p1 p2 p3 p4
  have zi : w.heap.size < U.heap.size := BI.lt
  obtain ⟨b1, o, A', c', rfl, hP, hbz, c0, hL⟩ := HQ.out.at_ hq
  have hm := hL.2.1
  have hm' := hL.1
  simp only [maxLen] at hm
  have HL := Lib.hid hL
  have HV := Lib.hid (show oldV Q b = q.head? by simp [oldV, hq])
  clear hQ hU BI hq hbl hP hL
  unfold GivesI
  rw [HV.out]
  by_cases h0 : q.length = 0
  · have hqe : q = [] := List.length_eq_zero_iff.1 h0
    subst hqe
    have hb0 : (((([] : List IncR).length : Nat) : Int) == 0) = true := by simp
    clear h0 hm'
    go_enter Try.func29, Try.ntmps29
    go_wp2_with (go_at_call 47; rw [← HU.out]; refine (isBelt11_any _ c Q.length b U).mono ?_; rintro e w1 ⟨rfl, rfl⟩; rw [HBL.out])
    refine bodyPost_ret (v := .tuple #[inc0.v, .bool false]) (by simp [results, Try.results29, go_sem, inc0, IncR.v, p0, p1, p2, p3, p4]) rfl ⟨by simp, below_put5 HBU.out (Nat.le_refl _) _ _ _ _ _⟩
  · have hb0 : ((q.length : Int) == 0) = false := by simp only [beq_eq_false_iff_ne]; omega
    obtain ⟨i, hi⟩ := nth_of (show 0 < q.length by omega)
    have HI := Lib.hid (show q.head? = some i by rw [← hi]; cases q <;> simp)
    obtain ⟨b', o', rfl, hP', hbz', d0, d1, d2, d3, d4⟩ := HL.out.at_ hi
    have hz : (0 : Int) < q.length := by omega
    simp at d0 d1 d2 d3 d4
    clear h0 hm hm' hi hP'
    go_enter Try.func29, Try.ntmps29
    go_wp2_with (go_at_call 47; rw [← HU.out]; refine (isBelt11_any _ c Q.length b U).mono ?_; rintro e w1 ⟨rfl, rfl⟩; rw [HBL.out])
    
    
    refine bodyPost_ret (v := .tuple #[i.v, .bool true]) (by simp [results, Try.results29, go_sem, IncR.v, p0, p1, p2, p3, p4]) rfl ⟨by rw [HI.out]; rfl, below_put5 HBU.out (Nat.le_refl _) _ _ _ _ _⟩

set_option maxHeartbeats 1000000 in
theorem youngest_any (A : Option Addr) (c : Nat) (Q : List (List IncR)) (b : Nat) (w : World) (hQ : QArr w (Lt w.heap.size) A c Q) (hb : b < Q.length) :
    Calls Try.prog 30 #[.slice A Q.length c, .int .i64 b] w (GivesI (youV Q b) w) := by
  obtain ⟨q, hq⟩ := nth_of hb
  obtain ⟨U, hU⟩ : ∃ U, U = w.alloc (.cells #[.int .i64 0, .int .i64 0, .int .i64 0, .int .i64 0, .int .i64 0] 41) := ⟨_, rfl⟩
  have BI := (show Blk U w.heap.size 41 #[.int .i64 0, .int .i64 0, .int .i64 0, .int .i64 0, .int .i64 0] by rw [hU]; exact Blk.new _ _ _)
  have HBU : Hid (Below w.heap.size w U) := by rw [hU]; exact (Below.refl _ _).alloc (Nat.le_refl _) _
  have HQ := Lib.hid (hQ.next HBU.out)
  have HU := Lib.hid hU
  have hbl : isBQ Q.length b = true := by simp [isBQ]; omega
  have HBL := Lib.hid hbl
  have hb2 : 0 ≤ (b : Int) ∧ (b : Int) < Q.length := by omega
  have f0 := BI.frozen 0
  have f1 := BI.frozen 1
  have f2 := BI.frozen 2
  have f3 := BI.frozen 3
  have f4 := BI.frozen 4
  have p0 := BI.cell 0
  have p1 := BI.cell 1
  have p2 := BI.cell 2
  have p3 := BI.cell 3
  have p4 := BI.cell 4
  simp at p0 p1 p2 p3 p4
  have zi : w.heap.size < U.heap.size := BI.lt
  obtain ⟨b1, o, A', c', rfl, hP, hbz, c0, hL⟩ := HQ.out.at_ hq
  have hm := hL.2.1
  have hm' := hL.1
  simp only [maxLen] at hm
  have HL := Lib.hid hL
  have HV := Lib.hid (show youV Q b = q.getLast? by simp [youV, hq])
  clear hQ hU BI hq hbl hP hL
  unfold GivesI
  rw [HV.out]
  by_cases h0 : q.length = 0
  · have hqe : q = [] := List.length_eq_zero_iff.1 h0
    subst hqe
    have hb0 : (((([] : List IncR).length : Nat) : Int) == 0) = true := by simp
    clear h0 hm'
    go_enter Try.func30, Try.ntmps30
    go_wp2_with (go_at_call 47; rw [← HU.out]; refine (isBelt11_any _ c Q.length b U).mono ?_; rintro e w1 ⟨rfl, rfl⟩; rw [HBL.out])
    refine bodyPost_ret (v := .tuple #[inc0.v, .bool false]) (by simp [results, Try.results30, go_sem, inc0, IncR.v, p0, p1, p2, p3, p4]) rfl ⟨by simp, below_put5 HBU.out (Nat.le_refl _) _ _ _ _ _⟩
  · have hb0 : ((q.length : Int) == 0) = false := by simp only [beq_eq_false_iff_ne]; omega
    obtain ⟨i, hi⟩ := nth_of (show (q.length - 1) < q.length by omega)
    have HI := Lib.hid (show q.getLast? = some i by rw [← hi, List.getLast?_eq_getElem?])
    obtain ⟨b', o', rfl, hP', hbz', d0, d1, d2, d3, d4⟩ := HL.out.at_ hi
    have hz : IntKind.i64.wrap ((q.length : Int) - 1) = ((q.length - 1 : Nat) : Int) := by rw [IntWalk.i64_in _ (by omega)]; omega
    have hz2 : 0 ≤ ((q.length - 1 : Nat) : Int) ∧ ((q.length - 1 : Nat) : Int) < q.length := by omega
    clear h0 hm hm' hi hP'
    go_enter Try.func30, Try.ntmps30
    go_wp2_with (go_at_call 47; rw [← HU.out]; refine (isBelt11_any _ c Q.length b U).mono ?_; rintro e w1 ⟨rfl, rfl⟩; rw [HBL.out])
    go_region
    go_wp2
    refine bodyPost_ret (v := .tuple #[i.v, .bool true]) (by simp [results, Try.results30, go_sem, IncR.v, p0, p1, p2, p3, p4]) rfl ⟨by rw [HI.out]; rfl, below_put5 HBU.out.drew (Nat.le_refl _) _ _ _ _ _⟩
end Go.Proofs.Ytkknmphigpcjjaa
