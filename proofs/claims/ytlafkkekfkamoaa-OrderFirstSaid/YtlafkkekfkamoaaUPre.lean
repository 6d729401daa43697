/-
  Prefixes: what the reference says.
-/
import Derived.Test.YtlafkkekfkamoaaUAll
import Derived.Test.YtlafkkekfkamoaaQval
namespace Go.Proofs.Ytlafkkekfkamoaa
open Go.RowKit
set_option maxRecDepth 100000
set_option linter.unusedVariables false

/-- The numbers S are all different, and those of the first increments of F. -/
def PreP (F : List IncR) (S : List Int) : Prop :=
  S.length ≤ F.length ∧ (∀ (j k : Nat) (s r : Int), k < j → S[j]? = some s → S[k]? = some r → r ≠ s) ∧ (∀ (j : Nat) (s : Int), S[j]? = some s → ∃ (t : Nat) (i : IncR), t < S.length ∧ F[t]? = some i ∧ i.sq = s) ∧
    ∀ (t : Nat) (i : IncR), t < S.length → F[t]? = some i → ∃ j : Nat, S[j]? = some i.sq

/-- Whether one of the first k increments has the number s. -/
def FndP (F : List IncR) (s : Int) (k : Nat) : Prop := ∃ (t : Nat) (i : IncR), t < k ∧ F[t]? = some i ∧ i.sq = s
theorem fnd_next {F : List IncR} {s : Int} {k : Nat} {i : IncR} (hi : F[k]? = some i) : FndP F s (k + 1) ↔ FndP F s k ∨ i.sq = s := by
  constructor
  · rintro ⟨t, x, ht, hx, e⟩
    rcases (by omega : t < k ∨ t = k) with h | h
    · exact .inl ⟨t, x, h, hx, e⟩
    · subst h
      rw [hi] at hx
      injection hx with hx
      subst hx
      exact .inr e
  · rintro (⟨t, x, ht, hx, e⟩ | e)
    · exact ⟨t, x, by omega, hx, e⟩
    · exact ⟨k, i, by omega, hi, e⟩
/-- Whether one of the first k numbers is s. -/
def HasN (S : List Int) (s : Int) (k : Nat) : Prop := ∃ j : Nat, j < k ∧ S[j]? = some s
theorem has_next {S : List Int} {s r : Int} {k : Nat} (hi : S[k]? = some r) : HasN S s (k + 1) ↔ HasN S s k ∨ r = s := by
  constructor
  · rintro ⟨t, ht, hx⟩
    rcases (by omega : t < k ∨ t = k) with h | h
    · exact .inl ⟨t, h, hx⟩
    · subst h
      rw [hi] at hx
      injection hx with hx
      exact .inr hx
  · rintro (⟨t, ht, hx⟩ | e)
    · exact ⟨t, by omega, hx⟩
    · exact ⟨k, by omega, by rw [hi, e]⟩

set_option maxHeartbeats 4000000 in
theorem refPrefix_any (A : Option Addr) (c : Nat) (Q : List (List IncR)) (B : Option Addr) (d : Nat) (S : List Int) (w : World) (hQ : QArr w (Lt w.heap.size) A c Q) (hS : SArr w (Lt w.heap.size) B d S) (hf : Q.flatten.length ≤ 4096) (hs4 : S.length ≤ 1048576) :
    Calls Try.prog 23 #[.slice A Q.length c, .slice B S.length d] w (IffOf (PreP Q.flatten S) w) := by
  have HS := Lib.hid hS
  have HQ := Lib.hid hQ
  have hd1 := hS.1
  have hd2 := hS.2.1
  simp only [maxLen] at hd2
  clear hQ hS
  obtain ⟨F, hF⟩ : ∃ F, F = Q.flatten := ⟨_, rfl⟩
  rw [← hF]
  have HFE := Lib.hid hF
  clear hF
  go_enter Try.func23, Try.ntmps23
  go_wp2_with fail
  refine (refAll_any A c Q w HQ.out hf).mono ?_
  rintro e V ⟨v, rfl, hr, h1, hb⟩
  rw [← HFE.out] at hr
  obtain ⟨C, b, rfl, hl⟩ := larr_of hr
  have HV := Lib.hid hb
  have HSV := Lib.hid (HS.out.next hb)
  have HF := Lib.hid hl.lt
  have hm := hl.2.1
  have hm' := hl.1
  simp only [maxLen] at hm
  clear hr h1 hl HS HQ hb
  by_cases hlen : S.length ≤ F.length
  · have hlz : ¬ ((F.length : Int) < S.length) := by omega
    have hlz2 : 0 ≤ (S.length : Int) ∧ (S.length : Int) ≤ b := by omega
    have HFT := Lib.hid (HF.out.take S.length)
    obtain ⟨n, hn⟩ : ∃ n, n = S.length := ⟨_, rfl⟩
    have HNN := Lib.hid hn
    go_wp2_with fail
    go_loopw [26] (fun i wr => ∃ t : Nat, t ≤ S.length ∧ i = .int .i64 t ∧ (∀ (j : Nat) (s : Int), j < t → S[j]? = some s → ¬ HasN S s j ∧ FndP F s S.length) ∧ Below V.heap.size V wr) (fun i _ => S.length - (intOf i).toNat)
    case atStart => exact ⟨0, by omega, rfl, fun j s hj => by omega, Below.refl _ _⟩
    case round =>
      obtain ⟨t, ht, rfl, hno, hb⟩ := hrel
      have HN := Lib.hid hno
      have HB := Lib.hid hb
      clear hno hb
      by_cases hlt : t < S.length
      · have hlt2 : 0 ≤ (t : Int) ∧ (t : Int) < S.length := by omega
        obtain ⟨s, hs⟩ := nth_of hlt
        obtain ⟨bs, os, rfl, _, zb, c0⟩ := (HSV.out.next HB.out).at_ hs
        have HSR := Lib.hid (HSV.out.next HB.out)
        have HSS := Lib.hid hs
        clear hs
        go_wp2_with fail
        go_loopw [8] (fun i wq => ∃ k : Nat, k ≤ t ∧ i = .int .i64 k ∧ ¬ HasN S s k ∧ wq = wr) (fun i _ => t - (intOf i).toNat)
        case atStart => exact ⟨0, by omega, rfl, fun ⟨j, hj, _⟩ => by omega, rfl⟩
        case round =>
          obtain ⟨k, hk, rfl, hno, rfl⟩ := hrel
          have HNO := Lib.hid hno
          clear hno
          by_cases hkt : k < t
          · have hk2 : 0 ≤ (k : Int) ∧ (k : Int) < S.length := by omega
            have hk3 : (k : Int) < t := by omega
            obtain ⟨r, hr⟩ := nth_of (show k < S.length by omega)
            obtain ⟨b', o', e, _, _, c1⟩ := HSR.out.at_ hr
            injection e with e
            injection e with e1 e2
            subst e1 e2
            have HRR := Lib.hid hr
            clear hr
            cases hq : (r == s) with
            | true =>
              have hqe : r = s := by simpa using hq
              have HX := Lib.hid (show ¬ PreP F S from fun h => h.2.1 t k s r hkt HSS.out HRR.out hqe)
              clear hqe
              go_wp2_with fail
              go_ret
              exact ⟨false, rfl, iff_no HX.out, below_next HV.out (Nat.le_refl _) HB.out⟩
            | false =>
              have hqe : r ≠ s := by simpa using hq
              have HX := Lib.hid (show ¬ HasN S s (k + 1) from fun h => by
                rcases (has_next HRR.out).1 h with h | h
                · exact HNO.out h
                · exact hqe h)
              clear hqe
              go_wp2_with fail
              exact ⟨⟨k + 1, by omega, by go_num, HX.out, by trivial⟩, by simp [intOf]; omega⟩
          · have hkt2 : ¬ (k : Int) < t := by omega
            have hke : k = t := by omega
            subst hke
            go_wp2_with fail
            go_loopw [9, 47] (fun f i wq => ∃ (k2 : Nat) (fb : Bool), k2 ≤ S.length ∧ i = .int .i64 k2 ∧ f = .bool fb ∧ (fb = true ↔ FndP F s k2) ∧ Below V.heap.size V wq) (fun _ i _ => S.length - (intOf i).toNat)
            case atStart => exact ⟨0, false, by omega, rfl, rfl, ⟨fun h => (by cases h), fun ⟨j, _, hj, _⟩ => by omega⟩, HB.out⟩
            case round =>
              obtain ⟨k2, fb, hk2', rfl, rfl, hfb, hb⟩ := hrel
              have HFB := Lib.hid hfb
              have HB3 := Lib.hid hb
              clear hfb hb
              by_cases hk3 : k2 < S.length
              · have hk4 : 0 ≤ (k2 : Int) ∧ (k2 : Int) < S.length := by omega
                obtain ⟨i, hi⟩ := nth_of (show k2 < F.length by omega)
                obtain ⟨bf, of_, rfl, _, _, d0, d1, d2, d3, d4⟩ := (HF.out.next HB3.out).at_ hi
                obtain ⟨x0, hx0⟩ : ∃ x, x = i.sq := ⟨_, rfl⟩
                rw [← hx0] at d0
                obtain ⟨fc, hfc⟩ : ∃ fc : Bool, fc = (fb || x0 == s) := ⟨_, rfl⟩
                have HFC := Lib.hid (show (fc = true ↔ FndP F s (k2 + 1)) by
                  rw [hfc, Bool.or_eq_true, beq_iff_eq, HFB.out, fnd_next hi, hx0])
                have HXC := Lib.hid hfc
                generalize i.bt = x1 at d1
                generalize i.fi = x2 at d2
                generalize i.la = x3 at d3
                generalize i.wo = x4 at d4
                clear hi hx0 hfc
                cases fb with
                | true =>
                  have hft : fc = true := by rw [HXC.out]; rfl
                  subst hft
                  clear HXC
                  go_wp2_with fail
                  exact ⟨⟨k2 + 1, true, by omega, by go_num, rfl, HFC.out, HB3.out.alloc HB3.out.size _⟩, by simp [intOf]; omega⟩
                | false =>
                  have hft : (x0 == s) = fc := by rw [HXC.out]; rfl
                  clear HXC
                  go_wp2_with fail
                  exact ⟨⟨k2 + 1, fc, by omega, by go_num, rfl, HFC.out, HB3.out.alloc HB3.out.size _⟩, by simp [intOf]; omega⟩
              · have hk4 : ¬ (k2 : Int) < S.length := by omega
                have hke : k2 = S.length := by omega
                rw [hke] at HFB
                clear hke
                cases fb with
                | false =>
                  have HX := Lib.hid (show ¬ PreP F S from fun h => by
                    obtain ⟨t', i, h1, h2, h3⟩ := h.2.2.1 k s HSS.out
                    exact absurd (HFB.out.2 ⟨t', i, h1, h2, h3⟩) (by decide))
                  go_wp2_with fail
                  go_ret
                  exact ⟨false, rfl, iff_no HX.out, below_next HV.out (Nat.le_refl _) HB3.out⟩
                | true =>
                  have HX := Lib.hid (show ∀ (j : Nat) (y : Int), j < k + 1 → S[j]? = some y → ¬ HasN S y j ∧ FndP F y S.length from fun j y hj hy => by
                    rcases (by omega : j < k ∨ j = k) with h | h
                    · exact HN.out j y h hy
                    · subst h
                      rw [HSS.out] at hy
                      injection hy with hy
                      subst hy
                      exact ⟨HNO.out, HFB.out.1 rfl⟩)
                  go_wp2_with fail
                  exact ⟨⟨_, _, _, _, _, _, .int .i64 ((k : Int) + 1), ⟨k + 1, by omega, by go_num, HX.out, HB3.out⟩, rfl, rfl, rfl, rfl, rfl, rfl, rfl⟩, by simp [intOf]; omega⟩
      · have hlt2 : ¬ (t : Int) < S.length := by omega
        have hte : t = S.length := by omega
        rw [hte] at HN
        clear hte
        go_wp2_with fail
        go_loopw [67] (fun i wq => ∃ k : Nat, k ≤ S.length ∧ i = .int .i64 k ∧ (∀ (j : Nat) (i : IncR), j < k → F[j]? = some i → HasN S i.sq S.length) ∧ Below V.heap.size V wq) (fun i _ => S.length - (intOf i).toNat)
        case atStart => exact ⟨0, by omega, rfl, fun j i hj => by omega, HB.out⟩
        case round =>
          obtain ⟨k, hk, rfl, hno, hb⟩ := hrel
          have HNO := Lib.hid hno
          have HB3 := Lib.hid hb
          clear hno hb
          by_cases hkt : k < S.length
          · have hk2 : 0 ≤ (k : Int) ∧ (k : Int) < S.length := by omega
            obtain ⟨i, hi⟩ := nth_of (show k < F.length by omega)
            obtain ⟨bf, of_, rfl, _, _, d0, d1, d2, d3, d4⟩ := (HF.out.next HB3.out).at_ hi
            obtain ⟨x0, hx0⟩ : ∃ x, x = i.sq := ⟨_, rfl⟩
            rw [← hx0] at d0
            have HI := Lib.hid hi
            have HX0 := Lib.hid hx0
            generalize i.bt = x1 at d1
            generalize i.fi = x2 at d2
            generalize i.la = x3 at d3
            generalize i.wo = x4 at d4
            clear hi hx0
            obtain ⟨W, hW⟩ : ∃ W, W = wr.alloc (.cells #[.int .i64 x0, .int .i64 x1, .int .i64 x2, .int .i64 x3, .int .i64 x4] 24) := ⟨_, rfl⟩
            have hwb : Below wr.heap.size wr W := by rw [hW]; exact (Below.refl _ _).alloc (Nat.le_refl _) _
            have HB4 := Lib.hid (below_next HB3.out (Nat.le_refl _) hwb)
            have BX := (show Blk W wr.heap.size 24 #[.int .i64 x0, .int .i64 x1, .int .i64 x2, .int .i64 x3, .int .i64 x4] by rw [hW]; exact Blk.new _ _ _)
            have q0 := BX.cell 0
            simp at q0
            have HSR := Lib.hid (HSV.out.next HB4.out)
            have HWE := Lib.hid hW
            clear hW hwb BX
            go_wp2_with fail
            rw [← HWE.out]
            go_loopw [14, 73] (fun f i wq => ∃ (k2 : Nat) (fb : Bool), k2 ≤ S.length ∧ i = .int .i64 k2 ∧ f = .bool fb ∧ (fb = true ↔ HasN S x0 k2) ∧ wq = W) (fun _ i _ => S.length - (intOf i).toNat)
            case atStart => exact ⟨0, false, by omega, rfl, rfl, ⟨fun h => (by cases h), fun ⟨j, hj, _⟩ => by omega⟩, by trivial⟩
            case round =>
              obtain ⟨k2, fb, hk2', rfl, rfl, hfb, hwq⟩ := hrel
              subst hwq
              have HFB := Lib.hid hfb
              clear hfb
              by_cases hk3 : k2 < S.length
              · have hk4 : 0 ≤ (k2 : Int) ∧ (k2 : Int) < S.length := by omega
                obtain ⟨r, hr⟩ := nth_of hk3
                obtain ⟨bs, os, rfl, _, _, c1⟩ := HSR.out.at_ hr
                obtain ⟨fc, hfc⟩ : ∃ fc : Bool, fc = (fb || x0 == r) := ⟨_, rfl⟩
                have HFC := Lib.hid (show (fc = true ↔ HasN S x0 (k2 + 1)) by
                  rw [hfc, Bool.or_eq_true, beq_iff_eq, HFB.out, has_next hr]
                  constructor
                  · rintro (h | h)
                    · exact .inl h
                    · exact .inr h.symm
                  · rintro (h | h)
                    · exact .inl h
                    · exact .inr h.symm)
                have HXC := Lib.hid hfc
                clear hr hfc
                cases fb with
                | true =>
                  have hft : fc = true := by rw [HXC.out]; rfl
                  subst hft
                  clear HXC
                  go_wp2_with fail
                  exact ⟨⟨k2 + 1, true, by omega, by go_num, rfl, HFC.out, by trivial⟩, by simp [intOf]; omega⟩
                | false =>
                  have hft : (x0 == r) = fc := by rw [HXC.out]; rfl
                  clear HXC
                  go_wp2_with fail
                  exact ⟨⟨k2 + 1, fc, by omega, by go_num, rfl, HFC.out, by trivial⟩, by simp [intOf]; omega⟩
              · have hk4 : ¬ (k2 : Int) < S.length := by omega
                have hke : k2 = S.length := by omega
                rw [hke] at HFB
                clear hke
                cases fb with
                | false =>
                  have HX := Lib.hid (show ¬ PreP F S from fun h => by
                    obtain ⟨j, hj⟩ := h.2.2.2 k i hkt HI.out
                    rw [← HX0.out] at hj
                    exact absurd (HFB.out.2 ⟨j, get_lt hj, hj⟩) (by decide))
                  go_wp2_with fail
                  go_ret
                  exact ⟨false, rfl, iff_no HX.out, below_next HV.out (Nat.le_refl _) HB4.out⟩
                | true =>
                  have HX := Lib.hid (show ∀ (j : Nat) (y : IncR), j < k + 1 → F[j]? = some y → HasN S y.sq S.length from fun j y hj hy => by
                    rcases (by omega : j < k ∨ j = k) with h | h
                    · exact HNO.out j y h hy
                    · subst h
                      rw [HI.out] at hy
                      injection hy with hy
                      subst hy
                      rw [← HX0.out]
                      exact HFB.out.1 rfl)
                  go_wp2_with fail
                  exact ⟨⟨k + 1, by omega, by go_num, HX.out, HB4.out⟩, by simp [intOf]; omega⟩
          · have hkt2 : ¬ (k : Int) < S.length := by omega
            have hke : k = S.length := by omega
            have HX := Lib.hid (show PreP F S from ⟨hlen, fun j i s r hj hs hr e => (HN.out j s (get_lt hs) hs).1 ⟨i, hj, by rw [hr, e]⟩, fun j s hs => (HN.out j s (get_lt hs) hs).2,
              fun t i ht hi => by obtain ⟨j, _, hj⟩ := HNO.out t i (by omega) hi; exact ⟨j, hj⟩⟩)
            go_wp2_with fail
            go_ret
            exact ⟨true, rfl, iff_yes HX.out, below_next HV.out (Nat.le_refl _) HB3.out⟩
  · have hlz : (F.length : Int) < S.length := by omega
    go_wp2_with fail
    go_ret
    exact ⟨false, rfl, iff_no (fun h => hlen h.1), HV.out⟩
end Go.Proofs.Ytlafkkekfkamoaa
