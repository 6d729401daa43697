/-
  The table in which no frame is free (withoutFreeFrames): valid, with the same chains and the same objects. Members of a list of addresses.
-/
import Derived.Test.YthcfcciemjkilaaWkc
namespace Go.Proofs.Ythcfcciemjkilaa
open Go.RowKit
set_option maxRecDepth 100000
set_option linter.unusedVariables false

section
variable {s : Int} {K nw n : Nat} {wd : Nat → Int} {F G : Nat → Fr} {p : Int} {W : Nat} {l : List Nat} {e : Int}
theorem noF_own {f : Nat} (h : (F f).ow ≠ -1) : noF F n f = F f := by unfold noF; rw [if_neg (fun e => h e.2)]
theorem noF_free {f : Nat} (hf : f < n) (h : (F f).ow = -1) : noF F n f = ⟨0, 0, -1⟩ := by unfold noF; rw [if_pos ⟨hf, h⟩]
theorem noF_nx (h : FV F n) (f : Nat) : (noF F n f).nx = (F f).nx := by
  by_cases e : f < n ∧ (F f).ow = -1
  · rw [noF_free e.1 e.2]
    rcases h.1 f e.1 with h1 | h1
    · rw [h1]; rfl
    · have := ownB_pos h1
      have := e.2
      omega
  · unfold noF
    rw [if_neg e]
theorem iter_nx (h : ∀ f, (G f).nx = (F f).nx) : ∀ i p, iter G i p = iter F i p
  | 0, _ => rfl
  | i + 1, p => by
    show (if p = -1 then -1 else iter G i (G p.toNat).nx) = (if p = -1 then -1 else iter F i (F p.toNat).nx)
    rw [h, iter_nx h i]
theorem noF_valid (h : ValidP s nw wd n F) : ValidP s nw wd n (noF F n) := by
  have hx := noF_nx h.fv
  refine ⟨h.1, h.2.1, h.2.2.1, fun f hf => ?_, fun f g hf hg he hn => ?_, fun f hf => ?_⟩
  · rcases h.fv.1 f hf with e | e
    · have e1 : noF F n f = ⟨0, 0, -1⟩ := noF_free hf (by rw [e]; rfl)
      unfold frameB ownB
      rw [e1]
      simp [stB]
    · have h0 := ownB_pos e
      have e1 : noF F n f = F f := noF_own (by omega)
      unfold frameB
      rw [Bool.or_eq_true]
      right
      rcases (ownB_yes e).2 with h2 | ⟨g, h2, _, _, h5, _⟩
      · have h3 := (ownB_yes e).1
        unfold ownB
        rw [e1, h2, h3]
        simp
      · have e2 : noF F n g = F g := noF_own (by omega)
        unfold ownB at e ⊢
        rw [h2, Int.toNat_natCast] at e
        rw [e1, h2, Int.toNat_natCast, e2]
        exact e
  · rw [hx, hx] at he
    rw [hx] at hn
    exact h.fv.2.1 f g hf hg he hn
  · rw [iter_nx hx]
    exact h.fv.2.2 f hf
theorem noF_addr (h : FV F n) (q : Nat) : addrP (noF F n) K p q = addrP F K p q := by
  unfold addrP
  rw [iter_nx (noF_nx h)]
theorem noF_len {m : Nat} (h : FV F n) (hl : LenP F p m) : LenP (noF F n) p m :=
  ⟨by rw [iter_nx (noF_nx h)]; exact hl.1, fun i hi => by rw [iter_nx (noF_nx h)]; exact hl.2 i hi⟩
theorem posN_addr (h : ∀ q, addrP G K p q = addrP F K p q) : ∀ j, posN K wd G p j = posN K wd F p j
  | 0 => rfl
  | j + 1 => by
    rw [posN_succ, posN_succ]
    unfold adrN
    rw [posN_addr h j, h]
theorem adrN_addr (h : ∀ q, addrP G K p q = addrP F K p q) (j : Nat) : adrN K wd G p j = adrN K wd F p j := by
  unfold adrN
  rw [posN_addr h j, h]
theorem lstN_addr (h : ∀ q, addrP G K p q = addrP F K p q) (j : Nat) : lstN K wd G p j = lstN K wd F p j := by
  unfold lstN
  exact List.map_congr_left fun i _ => adrN_addr h i
theorem Hds.addr {j : Nat} (hh : Hds K wd G p j) (h : ∀ q, addrP G K p q = addrP F K p q) : Hds K wd F p j := fun i hi => by
  rw [← adrN_addr h i]
  exact hh i hi
theorem ObjsR.addr (ho : ObjsR K wd G p W l e) (h : ∀ q, addrP G K p q = addrP F K p q) : ObjsR K wd F p W l e := by
  obtain ⟨j, a1, a2, a3⟩ := ho
  refine ⟨j, a1.addr h, by rw [← posN_addr h j]; exact a2, ?_⟩
  rw [← posN_addr h j, ← posN_addr h (j + 1), ← adrN_addr h j, ← lstN_addr h j]
  exact a3
/-- The addresses of the objects are all different. -/
theorem lstN_nodup {m z j : Nat} (hv : ValidP K nw wd n F) (hp : z < n) (ho : (F z).ow ≠ -1) (hl : LenP F z m) (hW : posN K wd F z j ≤ m * 2 ^ K) : (lstN K wd F z j).Nodup ∧ ∀ x ∈ lstN K wd F z j, x < nw := by
  have key : ∀ i, i < j → posN K wd F z i < m * 2 ^ K := fun i hi => by
    have := posN_smono (K := K) (wd := wd) (F := F) (p := (z : Int)) hi
    omega
  constructor
  · unfold lstN List.Nodup
    rw [List.pairwise_map]
    refine List.Pairwise.imp_of_mem ?_ List.pairwise_lt_range
    intro a b ha hb hab e
    rw [List.mem_range] at ha hb
    unfold adrN at e
    obtain ⟨z1, r1, e1, _⟩ := addr_in hv hp ho hl (key a ha)
    obtain ⟨z2, r2, e2, _⟩ := addr_in hv hp ho hl (key b hb)
    have e3 := addr_inj hv hp ho hl (key a ha) (key b hb) (by omega)
    have := posN_smono (K := K) (wd := wd) (F := F) (p := (z : Int)) hab
    omega
  · intro x hx
    unfold lstN at hx
    obtain ⟨i, hi, rfl⟩ := List.mem_map.1 hx
    rw [List.mem_range] at hi
    unfold adrN
    obtain ⟨z1, r1, e1, _, _, _, h2, _⟩ := addr_in hv hp ho hl (key i hi)
    omega
end

/-- Whether a number is in a list of addresses. -/
def memB (l : List Nat) (x : Int) : Bool := decide (∃ a ∈ l, ((a : Nat) : Int) = x)
theorem memB_iff {l : List Nat} {x : Int} : memB l x = true ↔ ∃ j, j < l.length ∧ numF l j = x := by
  unfold memB
  rw [decide_eq_true_iff]
  constructor
  · rintro ⟨a, ha, rfl⟩
    obtain ⟨j, hj, he⟩ := List.mem_iff_getElem.1 ha
    refine ⟨j, hj, ?_⟩
    unfold numF
    rw [List.getD_eq_getElem?_getD, List.getElem?_eq_getElem hj, he]
    rfl
  · rintro ⟨j, hj, rfl⟩
    refine ⟨l[j], List.getElem_mem hj, ?_⟩
    unfold numF
    rw [List.getD_eq_getElem?_getD, List.getElem?_eq_getElem hj]
    rfl
theorem indexI_any (A : Option Addr) (n c : Nat) (f : Nat → Int) (x : Int) (w : World) (h : Nums w w.heap.size A n c f) (hn : n ≤ 1048576) :
    Calls Try.prog 51 #[.slice A n c, .int .i64 x] w fun e w' => (∃ k : Int, e = .returned (.int .i64 k) ∧ -1 ≤ k ∧ (0 ≤ k ↔ ∃ j, j < n ∧ f j = x)) ∧ Below w.heap.size w w' := by
  have H := Lib.hid h
  clear h
  go_enter Try.func51, Try.ntmps51
  go_wp2
  go_loopw [5, 8] (fun _ i wr => ∃ t : Nat, t ≤ n ∧ i = .int .i64 t ∧ (∀ j, j < t → f j ≠ x) ∧ wr = w) (fun _ i _ => n - (intOf i).toNat)
  case atStart => exact ⟨0, Nat.zero_le _, rfl, fun j hj => absurd hj (Nat.not_lt_zero j), rfl⟩
  case round =>
    obtain ⟨t, ht, rfl, hno, rfl⟩ := hrel
    have HN := Lib.hid hno
    clear hno
    by_cases hlt : t < n
    · obtain ⟨b, o, rfl, hb, hc1⟩ := H.out.at_ t hlt
      have hx : 0 ≤ (t : Int) ∧ (t : Int) < n := by omega
      obtain ⟨y, hy⟩ : ∃ y, y = f t := ⟨_, rfl⟩
      rw [← hy] at hc1
      by_cases e : x = y
      · have hq : (x == y) = true := by simpa using e
        have HF := Lib.hid (show f t = x by rw [← hy, e])
        clear hy e
        go_wp2
        go_ret
        exact ⟨⟨t, rfl, by omega, ⟨fun _ => ⟨t, hlt, HF.out⟩, fun _ => by omega⟩⟩, Below.refl _ _⟩
      · have hq : (x == y) = false := by simpa using e
        have HF := Lib.hid (show f t ≠ x by rw [← hy]; exact fun h => e h.symm)
        clear hy e
        go_wp2
        refine ⟨⟨t + 1, by omega, by go_num, fun j hj => ?_, trivial⟩, by simp [intOf]; omega⟩
        rcases (show j < t ∨ j = t by omega) with h1 | rfl
        · exact HN.out j h1
        · exact HF.out
    · have hx : ¬ (t : Int) < n := by omega
      go_wp2
      go_ret
      exact ⟨⟨-1, rfl, by omega, ⟨fun h => absurd h (by decide), fun ⟨j, hj, he⟩ => absurd he (HN.out j (by omega))⟩⟩, Below.refl _ _⟩
theorem containsI_any (A : Option Addr) (c : Nat) (l : List Nat) (x : Int) (w : World) (h : Nums w w.heap.size A l.length c (numF l)) (hn : l.length ≤ 1048576) :
    Calls Try.prog 33 #[.slice A l.length c, .int .i64 x] w fun e w' => e = .returned (.bool (memB l x)) ∧ Below w.heap.size w w' := by
  obtain ⟨b, hb⟩ : ∃ b, b = memB l x := ⟨_, rfl⟩
  have K := Lib.hid (show b = true ↔ ∃ j, j < l.length ∧ numF l j = x by rw [hb]; exact memB_iff)
  rw [← hb]
  clear hb
  go_enter Try.func33, Try.ntmps33
  go_wp2_with (go_at_call 51; refine (indexI_any A l.length c (numF l) x w h hn).mono ?_; rintro e w1 ⟨⟨k, rfl, hk, hd⟩, hb1⟩; have HB := Lib.hid hb1; have HD := Lib.hid hd; clear hb1 hd)
  go_ret
  refine ⟨ret_bool ?_, HB.out⟩
  have h1 := HD.out.trans K.out.symm
  cases b
  · exact decide_eq_false fun h => absurd (h1.1 h) (by decide)
  · exact decide_eq_true (h1.2 rfl)
end Go.Proofs.Ythcfcciemjkilaa
