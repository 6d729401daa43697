/-
  Contracts of package walk: withoutFreeFrames, locate.
-/
import Derived.Test.YthcfcciemjkilaaWkr
import Derived.Test.YthcfcciemjkilaaMPool
import Derived.Test.YthcfcciemjkilaaDec
namespace Go.Proofs.Ythcfcciemjkilaa
open Go.RowKit
set_option maxRecDepth 100000
set_option linter.unusedVariables false

/-- The table in which none of the first t frames is free. -/
def noF (F : Nat → Fr) (t : Nat) : Nat → Fr := fun f => if f < t ∧ (F f).ow = -1 then ⟨0, 0, -1⟩ else F f
theorem noF_zero (F : Nat → Fr) (j : Nat) : noF F 0 j = F j := by unfold noF; rw [if_neg (fun h => absurd h.1 (by omega))]
theorem noF_more {F : Nat → Fr} {t : Nat} (h : (F t).ow ≠ -1) (j : Nat) : noF F (t + 1) j = noF F t j := by
  unfold noF
  by_cases e : j < t ∧ (F j).ow = -1
  · rw [if_pos e, if_pos ⟨by omega, e.2⟩]
  · rw [if_neg e, if_neg (fun h2 => ?_)]
    rcases (show j < t ∨ j = t by omega) with h3 | rfl
    · exact e ⟨h3, h2.2⟩
    · exact h h2.2
theorem noF_at {F : Nat → Fr} {t : Nat} (h : (F t).ow = -1) (j : Nat) : noF F (t + 1) j = if j = t then ⟨0, 0, -1⟩ else noF F t j := by
  unfold noF
  by_cases e : j = t
  · subst e; rw [if_pos rfl, if_pos ⟨by omega, h⟩]
  · rw [if_neg e]
    by_cases e2 : j < t ∧ (F j).ow = -1
    · rw [if_pos e2, if_pos ⟨by omega, e2.2⟩]
    · rw [if_neg e2, if_neg (fun h2 => e2 ⟨by omega, h2.2⟩)]
/-- What withoutFreeFrames hands back. -/
def NoOut (s : Int) (A : Option Addr) (nw c n : Nat) (F : Nat → Fr) (w : World) (e : Ending) (w' : World) : Prop :=
  ∃ g c2 : Nat, e = .returned (.agg #[.int .i64 s, .slice A nw c, .slice (some ⟨g, 0, none⟩) n c2]) ∧ OwnT w' w.heap.size (some ⟨g, 0, none⟩) n c2 (noF F n) ∧ Below w.heap.size w w'
set_option maxHeartbeats 2000000 in
theorem noFree_any (s : Int) (A A' : Option Addr) (nw c n c' : Nat) (F : Nat → Fr) (w : World) (hT : Tab w w.heap.size A' n c' F) (hn : n ≤ 64) (hn0 : 0 < n) :
    Calls Try.prog 27 #[.agg #[.int .i64 s, .slice A nw c, .slice A' n c']] w (NoOut s A nw c n F w) := by
  obtain ⟨b, o, rfl, hbb⟩ := hT.base_ hn0
  have HT := Lib.hid hT
  obtain ⟨U, hU⟩ : ∃ U, U = (w.alloc (.cells #[.int .i64 s, .slice A nw c, .slice (some ⟨b, o, none⟩) n c'] 25)).alloc (.cells #[.int .i64 0, .slice none 0 0, .slice none 0 0] 25) := ⟨_, rfl⟩
  have BU : Blk U w.heap.size 25 #[.int .i64 s, .slice A nw c, .slice (some ⟨b, o, none⟩) n c'] := by rw [hU]; exact (Blk.new _ _ _).alloc _
  have BR : Blk U (w.heap.size + 1) 25 #[.int .i64 0, .slice none 0 0, .slice none 0 0] := by rw [hU]; exact Blk.newAt _ _ _ _ (by simp)
  have HBU : Hid (Below w.heap.size w U) := by rw [hU]; exact ((Below.refl _ _).alloc (Nat.le_refl _) _).alloc (by simp) _
  have HU := Lib.hid hU
  have p0 := BU.cell 0
  have p1 := BU.cell 1
  have p2 := BU.cell 2
  simp at p0 p1 p2
  have z1 : w.heap.size < U.heap.size := BU.lt
  have z2 : w.heap.size + 1 < U.heap.size := BR.lt
  clear hT hU
  go_enter Try.func27, Try.ntmps27
  go_wp2_with fail
  rw [← HU.out]
  refine (clonef_any b o n c' F U (HT.out.next HBU.out) (by omega) hn0).mono ?_
  rintro e U1 ⟨g, c2, rfl, ht, hb1⟩
  have HT1 := Lib.hid (ht.congr (fun j _ => (noF_zero F j).symm))
  have HB1 := Lib.hid hb1
  have BU1 := Lib.hid (BU.next hb1)
  have BR1 := Lib.hid (BR.next hb1)
  have zz := hb1.size
  clear ht hb1 p0 p1 p2 BU BR
  go_wp2_with fail
  go_loopw [4, 10] (fun _ i wr => ∃ t : Nat, t ≤ n ∧ i = .int .i64 t ∧ OwnT wr U.heap.size (some ⟨g, 0, none⟩) n c2 (noF F t) ∧ Below U.heap.size U wr) (fun _ i _ => n - (intOf i).toNat)
  case atStart => exact ⟨0, by omega, rfl, HT1.out, HB1.out⟩
  case round =>
    obtain ⟨t, ht, rfl, hT2, hb2⟩ := hrel
    by_cases hlt : t < n
    · have hlt2 : 0 ≤ (t : Int) ∧ (t : Int) < n := by omega
      obtain ⟨gb, gz, c0, cc1, cc2, f0, f1, f2, hnew, _⟩ := hT2.spotAt t hlt ⟨0, 0, -1⟩
      have hft : noF F t t = F t := by unfold noF; rw [if_neg (by omega)]
      rw [hft] at c0 cc1 cc2
      obtain ⟨y, hy⟩ : ∃ y, y = (F t).ow := ⟨_, rfl⟩
      rw [← hy] at c0
      dsimp only at hnew
      have HT2 := Lib.hid hT2
      have HB2 := Lib.hid hb2
      have HNEW := Lib.hid hnew
      have HY := Lib.hid hy
      clear hT2 hb2 hnew hft hy
      by_cases e1 : y = -1
      · subst e1
        go_wp2_with fail
        exact ⟨⟨t + 1, by omega, by go_num, HNEW.out.congr (fun j _ => (noF_at HY.out.symm j).symm), ((HB2.out.setCell (p := ⟨g, t * 3, none⟩) gb _).setCell (p := ⟨g, t * 3 + 1, none⟩) gb _).setCell (p := ⟨g, t * 3 + 2, none⟩) gb _⟩, by simp [intOf]; omega⟩
      · have hb1' : (y == -1) = false := by simpa using e1
        have HE := Lib.hid e1
        clear e1
        go_wp2_with fail
        exact ⟨⟨t + 1, by omega, by go_num, HT2.out.congr (fun j _ => (noF_more (by rw [← HY.out]; exact HE.out) j).symm), HB2.out⟩, by simp [intOf]; omega⟩
    · obtain rfl : t = n := by omega
      have hlt2 : ¬ (t : Int) < t := by omega
      have HT2 := Lib.hid hT2
      have HB2 := Lib.hid hb2
      have BU2 := BU1.out
      have BR2 := BR1.out
      have KU : Blk wr w.heap.size 25 #[.int .i64 s, .slice A nw c, .slice (some ⟨b, o, none⟩) t c'] := by
        have h := HU.out
        rw [h] at HB2
        exact ((Blk.new _ _ _).alloc _).next (by have := HB2.out; rw [← h] at this ⊢; exact this)
      have KR : Blk wr (w.heap.size + 1) 25 #[.int .i64 0, .slice none 0 0, .slice none 0 0] := by
        have h := HU.out
        have h2 : Blk U (w.heap.size + 1) 25 #[.int .i64 0, .slice none 0 0, .slice none 0 0] := by rw [h]; exact Blk.newAt _ _ _ _ (by simp)
        exact h2.next HB2.out
      clear hT2 hb2 BU1 BR1 BU2 BR2 HT1 HB1
      have p0 := KU.cell 0
      have p1 := KU.cell 1
      have p2 := KU.cell 2
      have r0 := KR.cell 0
      have r1 := KR.cell 1
      have r2 := KR.cell 2
      have rf0 := KR.frozen 0
      have rf1 := KR.frozen 1
      have rf2 := KR.frozen 2
      have zr := KR.lt
      simp at p0 p1 p2 r0 r1 r2
      clear KU KR
      go_wp2
      refine bodyPost_ret (v := .agg #[.int .i64 s, .slice A nw c, .slice (some ⟨g, 0, none⟩) t c2]) (by simp [results, Try.results27, go_sem, r0, r1, r2]) rfl ⟨g, c2, rfl, ?_, ?_⟩
      · exact (HT2.out.put3 (by omega) _ _ _).lower (by omega)
      · exact below_put3 (below_next HBU.out (Nat.le_refl _) HB2.out) (by omega) _ _ _

set_option maxHeartbeats 1000000 in
/-- Where locate leads: k words behind the first word of frame p. -/
theorem locate_any (K : Nat) (V1 : Value) (A' : Option Addr) (n c' : Nat) (F : Nat → Fr) (p m k : Nat) (w : World) (hT : Tab w w.heap.size A' n c' F) (hK : K ≤ 8) (hn : n ≤ 64) (hv : FV F n) (hp : p < n) (hl : LenP F p m) (hk : k < m * 2 ^ K) (hkk : k ≤ 65536) :
    Calls Try.prog 44 #[.agg #[.int .i64 K, V1, .slice A' n c'], .int .i64 p, .int .i64 k] w (Gives2 (iter F (k / 2 ^ K) p) ((k % 2 ^ K : Nat) : Int) w) := by
  have HT := Lib.hid hT
  obtain ⟨S, hS⟩ : ∃ S, S = 2 ^ K := ⟨_, rfl⟩
  have hS0 : 0 < S := by rw [hS]; exact Nat.two_pow_pos K
  have hS1 : S ≤ 256 := by rw [hS]; exact Nat.pow_le_pow_right (n := 2) (by decide) hK
  have ez : (2 : Int) ^ K = ((2 ^ K : Nat) : Int) := by simp
  have sh : wrap64 (2 ^ K) = (S : Int) := by rw [ez, ← hS]; exact IntWalk.wrap64_in _ ⟨by omega, by omega⟩
  clear ez
  obtain ⟨U, hU⟩ : ∃ U, U = w.alloc (.cells #[.int .i64 K, V1, .slice A' n c'] 25) := ⟨_, rfl⟩
  have BU : Blk U w.heap.size 25 #[.int .i64 K, V1, .slice A' n c'] := by rw [hU]; exact Blk.new _ _ _
  have HBU : Hid (Below w.heap.size w U) := by rw [hU]; exact (Below.refl _ _).alloc (Nat.le_refl _) _
  have HTU := Lib.hid (hT.next HBU.out)
  have HU := Lib.hid hU
  have p0 := BU.cell 0
  have p2 := BU.cell 2
  have pz := BU.lt
  simp at p0 p2
  rw [← hS] at hk ⊢
  have hv0 := Lib.hid hv.inside
  have HL := Lib.hid hl
  have HS := Lib.hid hS
  obtain ⟨X, hX⟩ : ∃ X, X = k / S := ⟨_, rfl⟩
  obtain ⟨R, hR⟩ : ∃ R, R = k % S := ⟨_, rfl⟩
  have hdm : X * S + R = k := by rw [hX, hR]; exact Nat.div_add_mod' k S
  have hRS : R < S := by rw [hR]; exact Nat.mod_lt _ hS0
  have hXm : X < m := by rw [hX]; exact Nat.div_lt_of_lt_mul (by rw [Nat.mul_comm]; exact hk)
  rw [← hX, ← hR]
  clear hX hR
  clear hT hU hv hl hS
  go_enter Try.func44, Try.ntmps44
  go_upto_region 2 with fail
  rw [← HU.out, sh]
  clear hk sh
  go_loopw [1, 2] (fun fv kv wr => ∃ i r q : Nat, i ≤ X ∧ i * S + r = k ∧ iter F i p = q ∧ fv = .int .i64 q ∧ kv = .int .i64 r ∧ Below U.heap.size U wr) (fun _ kv _ => (intOf kv).toNat)
  case atStart => exact ⟨0, k, p, by omega, by omega, rfl, rfl, rfl, Below.refl _ _⟩
  case round =>
    obtain ⟨i, r, q, hi, hr, hq, rfl, rfl, hb⟩ := hrel
    have hne := HL.out.2 i (by omega)
    have h1 := iter_in hv0.out hp i
    have hqn : q < n := by omega
    have hsx : iter F (i + 1) p = (F q).nx := by rw [iter_succ, if_neg hne, hq, Int.toNat_natCast]
    have HB := Lib.hid hb
    have HSX := Lib.hid hsx
    have BU1 := BU.next hb
    have p0 := BU1.cell 0
    have p2 := BU1.cell 2
    have pz := BU1.lt
    simp at p0 p2
    by_cases hge : S ≤ r
    · have hiX : i + 1 ≤ X := by
        rcases Nat.lt_or_ge i X with h | h
        · exact h
        · obtain rfl : i = X := by omega
          omega
      obtain ⟨r', hr'⟩ : ∃ r', r = r' + S := ⟨r - S, by omega⟩
      have hge2 : (S : Int) ≤ (r : Int) := by omega
      have HTR := HTU.out.next hb
      obtain ⟨bb, oo, hA', hbb⟩ := HTR.base_ (show 0 < n by omega)
      subst hA'
      obtain ⟨_, c0, c1, cx⟩ := HTR.cells q hqn
      obtain ⟨q', hq'⟩ : ∃ q' : Nat, iter F (i + 1) p = q' := by
        have h2 := iter_in hv0.out hp (i + 1)
        have h3 := HL.out.2 (i + 1) (by omega)
        exact ⟨(iter F (i + 1) p).toNat, by omega⟩
      rw [← hsx, hq'] at cx
      have hq2 : 0 ≤ (q : Int) ∧ (q : Int) < n := by omega
      have hqm : ((q : Int) != -1) = true := by simp
      have s1 : wrap64 ((r : Int) - S) = (r' : Int) := by rw [IntWalk.wrap64_in _ ⟨by omega, by omega⟩]; omega
      have HYY := Lib.hid hq'
      have HR9 := Lib.hid hr'
      have HR' := Lib.hid (show (i + 1) * S + r' = k by rw [Nat.add_mul, Nat.one_mul]; omega)
      clear hb hsx HTR BU BU1 hq' hne h1 hq c0 c1 hr hr'
      go_wp2_with fail
      refine ⟨⟨i + 1, r', q', hiX, HR'.out, HYY.out, rfl, congrArg (Value.int IntKind.i64) s1, HB.out⟩, ?_⟩
      have h9 := HR9.out
      rw [s1]
      clear s1
      simp [intOf]
      omega
    · have hiX : i = X := by
        rcases Nat.lt_or_ge i X with h | h
        · have := Nat.mul_le_mul_right S (show i + 1 ≤ X from h)
          rw [Nat.add_mul, Nat.one_mul] at this
          omega
        · omega
      have hge2 : ¬ (S : Int) ≤ (r : Int) := by omega
      have hqm : ((q : Int) != -1) = true := by simp
      have HQ := Lib.hid (show iter F X p = q by rw [← hiX]; exact hq)
      have hR : R = r := by rw [hiX] at hr; omega
      have FIN := Lib.hid (fun w' (h : Below w.heap.size w w') => (⟨by rw [HQ.out, hR], h⟩ : Gives2 (iter F X p) (R : Int) w (.returned (.tuple #[.int .i64 q, .int .i64 r])) w'))
      clear hb hsx BU BU1 hne h1 hq hr hdm hR HQ
      go_wp2
      go_ret2
      exact FIN.out _ (below_next HBU.out (Nat.le_refl _) HB.out)
end Go.Proofs.Ythcfcciemjkilaa
