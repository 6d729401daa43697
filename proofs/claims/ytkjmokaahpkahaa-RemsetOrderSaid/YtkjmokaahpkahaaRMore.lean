/-
  The reference's Count, Has, Drop and Into of remembered sets.
-/
import Derived.Test.YtkjmokaahpkahaaRPut
namespace Go.Proofs.Ytkjmokaahpkahaa
open Go.RowKit
set_option maxRecDepth 100000
set_option linter.unusedVariables false

theorem cntS_next {L : List SetR} {t : Nat} {x : SetR} (h : L[t]? = some x) : cntT (L.take (t + 1)) = cntT (L.take t) + x.sl.length := by
  rw [List.take_add_one, h]
  simp [cntT]
theorem cntS_le {B : Nat} : ∀ {L : List SetR}, (∀ x ∈ L, x.sl.length ≤ B) → cntT L ≤ L.length * B
  | [], _ => by simp [cntT]
  | x :: L, h => by
    have ih := cntS_le (L := L) (B := B) fun y hy => h y (List.mem_cons_of_mem _ hy)
    have := h x (by simp)
    simp only [cntT, List.map_cons, List.sum_cons, List.length_cons] at ih ⊢
    rw [Nat.add_mul]
    omega
theorem cntS_take (L : List SetR) (t : Nat) : cntT (L.take t) ≤ cntT L := by
  have h := congrArg cntT (List.take_append_drop t L)
  simp only [cntT, List.map_append, List.sum_append] at h ⊢
  omega

set_option maxHeartbeats 2000000 in
theorem count18_any (A : Option Addr) (c : Nat) (L : List SetR) (w : World) (hL : TArr w (Lt w.heap.size) A c L) (hc : cntT L ≤ 1099511627776) :
    Calls Try.prog 15 #[.slice A L.length c] w fun e w' => e = .returned (.int .i64 (cntT L : Nat)) ∧ Below w.heap.size w w' := by
  have HL := Lib.hid hL
  have hm := hL.2.1
  have hm' := hL.1
  simp only [maxLen] at hm
  clear hL
  go_enter Try.func15, Try.ntmps15
  go_wp2_with fail
  go_loopw [3, 8] (fun n i wr => ∃ t : Nat, t ≤ L.length ∧ n = .int .i64 (cntT (L.take t) : Nat) ∧ i = .int .i64 t ∧ Below w.heap.size w wr) (fun _ i _ => L.length - (intOf i).toNat)
  case atStart => exact ⟨0, by omega, rfl, rfl, Below.refl _ _⟩
  case round =>
    obtain ⟨t, ht, rfl, rfl, hb⟩ := hrel
    have HB := Lib.hid hb
    clear hb
    by_cases hlt : t < L.length
    · have hlt2 : 0 ≤ (t : Int) ∧ (t : Int) < L.length := by omega
      obtain ⟨x, hx⟩ := nth_of hlt
      obtain ⟨b, o, A2, c2, rfl, _, hbl, c0, c1, c2', _⟩ := (HL.out.next HB.out).at_ hx
      have hcn := cntS_next hx
      have hct := cntS_take L (t + 1)
      obtain ⟨n0, hn0⟩ : ∃ n, n = cntT (L.take t) := ⟨_, rfl⟩
      obtain ⟨n1, hn1⟩ : ∃ n, n = cntT (L.take (t + 1)) := ⟨_, rfl⟩
      rw [← hn0, ← hn1] at hcn
      rw [← hn1] at hct
      rw [← hn0]
      have HN1 := Lib.hid hn1
      have hw1 : IntKind.i64.wrap ((n0 : Int) + x.sl.length) = (n1 : Int) := by rw [IntWalk.i64_in _ (by omega)]; omega
      clear hx hn0 hn1
      go_wp2_with fail
      refine ⟨⟨t + 1, by omega, by rw [← HN1.out, hcn]; go_num, by go_num, HB.out.alloc HB.out.size _⟩, by simp [intOf]; omega⟩
    · have hlt2 : ¬ (t : Int) < L.length := by omega
      obtain rfl : t = L.length := by omega
      rw [List.take_length]
      go_wp2_with fail
      go_ret
      exact ⟨rfl, HB.out⟩

set_option maxHeartbeats 2000000 in
theorem has18_any (A : Option Addr) (c : Nat) (L : List SetR) (f g s : Int) (w : World) (hL : TArr w (Lt w.heap.size) A c L) :
    Calls Try.prog 21 #[.slice A L.length c, .int .i64 f, .int .i64 g, .int .i64 s] w (IffOf (HasS L f g s) w) := by
  have HL := Lib.hid hL
  have hm := hL.2.1
  have hm' := hL.1
  simp only [maxLen] at hm
  clear hL
  go_enter Try.func21, Try.ntmps21
  go_wp2_with fail
  go_loopw [15] (fun i wr => ∃ t : Nat, t ≤ L.length ∧ i = .int .i64 t ∧ (∀ (j : Nat) (x : SetR), j < t → L[j]? = some x → ¬ (x.fr = f ∧ x.tg = g ∧ s ∈ x.sl)) ∧ Below w.heap.size w wr) (fun i _ => L.length - (intOf i).toNat)
  case atStart => exact ⟨0, by omega, rfl, fun j x hj => by omega, Below.refl _ _⟩
  case round =>
    obtain ⟨t, ht, rfl, hno, hb⟩ := hrel
    have HN := Lib.hid hno
    have HB := Lib.hid hb
    clear hb hno
    by_cases hlt : t < L.length
    · have hlt2 : 0 ≤ (t : Int) ∧ (t : Int) < L.length := by omega
      obtain ⟨x, hx⟩ := nth_of hlt
      obtain ⟨b, o, A2, c2, rfl, _, hbl, c0, c1, c2', hS⟩ := (HL.out.next HB.out).at_ hx
      have HX := Lib.hid hx
      have HS := Lib.hid hS
      have NXT : Hid (¬ (x.fr = f ∧ x.tg = g ∧ s ∈ x.sl) → ∀ (j : Nat) (y : SetR), j < t + 1 → L[j]? = some y → ¬ (y.fr = f ∧ y.tg = g ∧ s ∈ y.sl)) := Lib.hid fun h j y hj hy => by
        rcases (by omega : j < t ∨ j = t) with h1 | h1
        · exact HN.out j y h1 hy
        · subst h1
          rw [HX.out] at hy
          injection hy with hy
          rw [← hy]
          exact h
      have hsm := hS.2.1
      have hsm' := hS.1
      simp only [maxLen] at hsm
      clear hx hS
      by_cases h1 : x.fr = f
      · have h1' : (x.fr == f) = true := by simpa using h1
        by_cases h2 : x.tg = g
        · have h2' : (x.tg == g) = true := by simpa using h2
          have HFG := Lib.hid (And.intro h1 h2)
          clear h1 h2
          go_wp2_with fail
          go_loopw [32] (fun i w2 => ∃ u : Nat, u ≤ x.sl.length ∧ i = .int .i64 u ∧ (∀ (j : Nat) (y : Int), j < u → x.sl[j]? = some y → y ≠ s) ∧ Below wr.heap.size wr w2) (fun i _ => x.sl.length - (intOf i).toNat)
          case atStart => exact ⟨0, by omega, rfl, fun j y hj => by omega, (Below.refl _ wr).alloc (Nat.le_refl _) _⟩
          case round =>
            obtain ⟨u, hu, rfl, hno2, hb2⟩ := hrel
            have HN2 := Lib.hid hno2
            have HB2 := Lib.hid hb2
            clear hno2 hb2
            by_cases hul : u < x.sl.length
            · have hul2 : 0 ≤ (u : Int) ∧ (u : Int) < x.sl.length := by omega
              obtain ⟨y, hy⟩ := nth_of hul
              obtain ⟨b', o', rfl, _, _, d0⟩ := (HS.out.next HB2.out).at_ hy
              have HY := Lib.hid hy
              clear hy
              by_cases he : y = s
              · have he2 : (y == s) = true := by simpa using he
                have HE := Lib.hid he
                go_wp2_with fail
                go_ret
                exact ⟨true, rfl, iff_yes ⟨x, List.mem_iff_getElem?.2 ⟨t, HX.out⟩, HFG.out.1, HFG.out.2, HE.out ▸ List.mem_iff_getElem?.2 ⟨u, HY.out⟩⟩, below_next HB.out (Nat.le_refl _) HB2.out⟩
              · have he2 : (y == s) = false := by simpa using he
                have HE := Lib.hid he
                go_wp2_with fail
                refine ⟨⟨u + 1, by omega, by go_num, fun j z hj hz => ?_, HB2.out⟩, by simp [intOf]; omega⟩
                rcases (by omega : j < u ∨ j = u) with h | h
                · exact HN2.out j z h hz
                · subst h
                  rw [HY.out] at hz
                  injection hz with hz
                  rw [← hz]
                  exact HE.out
            · have hul2 : ¬ (u : Int) < x.sl.length := by omega
              go_wp2_with fail
              refine ⟨⟨t + 1, by omega, by go_num, NXT.out (fun h => ?_), below_next HB.out (Nat.le_refl _) HB2.out⟩, by simp [intOf]; omega⟩
              obtain ⟨j, hj⟩ := List.mem_iff_getElem?.1 h.2.2
              exact HN2.out j s (by have := get_lt hj; omega) hj rfl
        · have h2' : (x.tg == g) = false := by simpa using h2
          have H2 := Lib.hid h2
          go_wp2_with fail
          exact ⟨⟨t + 1, by omega, by go_num, NXT.out (fun h => H2.out h.2.1), HB.out.alloc HB.out.size _⟩, by simp [intOf]; omega⟩
      · have h1' : (x.fr == f) = false := by simpa using h1
        have H1 := Lib.hid h1
        go_wp2_with fail
        exact ⟨⟨t + 1, by omega, by go_num, NXT.out (fun h => H1.out h.1), HB.out.alloc HB.out.size _⟩, by simp [intOf]; omega⟩
    · have hlt2 : ¬ (t : Int) < L.length := by omega
      have HX := Lib.hid (show ¬ HasS L f g s from fun ⟨x, hx, h⟩ => by
        obtain ⟨j, hj⟩ := List.mem_iff_getElem?.1 hx
        exact HN.out j x (by have := get_lt hj; omega) hj h)
      go_wp2_with fail
      go_ret
      exact ⟨false, rfl, iff_no HX.out, HB.out⟩
end Go.Proofs.Ytkjmokaahpkahaa
