/-
  Strings as lists of bytes (numbers below 256): tx; what Go's operations on strings say of them.
-/
import Derived.Test.YtnoeefbipdpeaaaNPure
import Derived.Laws.Concat
import Derived.Laws.Strings
import Derived.Laws.Strings2
import Derived.Laws.Strings3
namespace Go.Proofs.Ytnoeefbipdpeaaa
open Go.RowKit
set_option maxRecDepth 100000
set_option linter.unusedVariables false

/-- The string of a list of bytes, and the bytes of a string. -/
def tx (L : List Nat) : ByteArray := ByteArray.mk (L.map UInt8.ofNat).toArray
def txL (s : ByteArray) : List Nat := s.data.toList.map UInt8.toNat
def Byt (L : List Nat) : Prop := ∀ c ∈ L, c < 256
theorem Byt.append {A B : List Nat} (h : Byt A) (g : Byt B) : Byt (A ++ B) := fun c hc => by
  rcases List.mem_append.1 hc with h1 | h1
  · exact h c h1
  · exact g c h1
theorem Byt.left {A B : List Nat} (h : Byt (A ++ B)) : Byt A := fun c hc => h c (List.mem_append_left _ hc)
theorem Byt.right {A B : List Nat} (h : Byt (A ++ B)) : Byt B := fun c hc => h c (List.mem_append_right _ hc)
theorem Byt.drop {A : List Nat} (h : Byt A) (k : Nat) : Byt (A.drop k) := fun c hc => h c (List.mem_of_mem_drop hc)
theorem Byt.take {A : List Nat} (h : Byt A) (k : Nat) : Byt (A.take k) := fun c hc => h c (List.mem_of_mem_take hc)
theorem byt_txL (s : ByteArray) : Byt (txL s) := fun c hc => by
  simp only [txL, List.mem_map] at hc
  obtain ⟨b, _, rfl⟩ := hc
  exact b.toNat_lt
theorem tx_txL (s : ByteArray) : tx (txL s) = s := by
  unfold tx txL
  rw [List.map_map]
  have e : (UInt8.ofNat ∘ UInt8.toNat : UInt8 → UInt8) = id := by
    funext b
    simp
  rw [e, List.map_id]
theorem txL_tx {L : List Nat} (h : Byt L) : txL (tx L) = L := by
  unfold tx txL
  simp only [List.map_map]
  rw [List.map_congr_left (g := id) (fun c hc => ?_), List.map_id]
  have := h c hc
  simp only [Function.comp, id]
  rw [UInt8.toNat_ofNat']
  exact Nat.mod_eq_of_lt (by omega)
theorem tx_size (L : List Nat) : (tx L).size = L.length := by
  show (L.map UInt8.ofNat).toArray.size = _
  simp
theorem txL_length (s : ByteArray) : (txL s).length = s.size := by
  have := tx_size (txL s)
  rw [tx_txL] at this
  exact this.symm
theorem tx_append (A B : List Nat) : tx A ++ tx B = tx (A ++ B) := by
  unfold tx
  rw [ByteArray.mk_append_mk, List.map_append]
theorem tx_extract (L : List Nat) (a b : Nat) : (tx L).extract a b = tx ((L.drop a).take (b - a)) := by
  unfold tx
  rw [ByteArray.extract_mk, List.map_take, List.map_drop]
theorem tx_inj {A B : List Nat} (ha : Byt A) (hb : Byt B) (h : tx A = tx B) : A = B := by
  rw [← txL_tx ha, ← txL_tx hb, h]
/-- '==' on strings. -/
theorem tx_eq {A B : List Nat} (ha : Byt A) (hb : Byt B) : ((tx A).toList == (tx B).toList) = decide (A = B) := by
  rw [Bool.eq_iff_iff, beq_iff_eq, decide_eq_true_eq]
  constructor
  · intro h
    refine tx_inj ha hb ?_
    unfold tx at h ⊢
    rw [ByteArray.toList_mk, ByteArray.toList_mk] at h
    rw [h]
  · rintro rfl; rfl
/-- A byte of a string. -/
theorem tx_byte {L : List Nat} (h : Byt L) {i c : Nat} (hc : L[i]? = some c) : ∃ hi : i < (tx L).size, ((tx L)[i]'hi).toNat = c := by
  have hl := (List.getElem?_eq_some_iff.1 hc).1
  have hi : i < (tx L).size := by rw [tx_size]; exact hl
  have e : L[i] = c := (List.getElem?_eq_some_iff.1 hc).2
  have hlt := h c (List.mem_iff_getElem?.2 ⟨i, hc⟩)
  have e1 : (tx L)[i]'hi = (L.map UInt8.ofNat)[i]'(by rw [List.length_map]; exact hl) := rfl
  refine ⟨hi, ?_⟩
  rw [e1, List.getElem_map, e, UInt8.toNat_ofNat']
  exact Nat.mod_eq_of_lt (by omega)
theorem byteN_tx {L : List Nat} (h : Byt L) (i : Nat) : byteN (tx L) i = L.getD i 0 := by
  rcases Nat.lt_or_ge i L.length with hl | hl
  · obtain ⟨hi, e⟩ := tx_byte h (c := L[i]) (List.getElem?_eq_getElem hl)
    rw [← byteN_is hi, e, List.getD_eq_getElem?_getD, List.getElem?_eq_getElem hl]
    rfl
  · unfold byteN
    rw [dif_neg (by rw [tx_size]; omega), List.getD_eq_getElem?_getD, List.getElem?_eq_none hl]
    rfl
theorem chrB_lt {c : Nat} (h : chrB c = true) : c < 256 := by
  simp [chrB, letB, digB] at h
  omega
/-- Whether a name that a text may begin with is permitted. -/
theorem nameB_tx {L : List Nat} (hn : NmOk L) : nameB (tx L) = letB (L.getD 0 0) := by
  obtain ⟨h1, h2, h3⟩ := hn
  have hb : Byt L := fun c hc => chrB_lt (h3 c hc)
  rw [Bool.eq_iff_iff, nameB_iff, tx_size, byteN_tx hb]
  constructor
  · exact fun h => h.2.2.1
  · refine fun h => ⟨h1, h2, h, fun i hi => ?_⟩
    rw [byteN_tx hb, List.getD_eq_getElem?_getD, List.getElem?_eq_getElem hi]
    exact h3 _ (List.getElem_mem _)
theorem nmOk_of {s : ByteArray} (h : nameB s = true) : NmOk (txL s) ∧ letB ((txL s).getD 0 0) = true := by
  obtain ⟨h1, h2, h3, h4⟩ := (nameB_iff s).1 h
  have hb := byt_txL s
  have e : ∀ i, byteN s i = (txL s).getD i 0 := fun i => by
    have := byteN_tx hb i
    rwa [tx_txL] at this
  refine ⟨⟨by rw [txL_length]; exact h1, by rw [txL_length]; exact h2, fun c hc => ?_⟩, by rw [← e]; exact h3⟩
  obtain ⟨i, hi⟩ := List.mem_iff_getElem?.1 hc
  have hl := (List.getElem?_eq_some_iff.1 hi).1
  have := h4 i (by rw [← txL_length]; exact hl)
  rw [e, List.getD_eq_getElem?_getD, hi] at this
  exact this

/-- Bytes of the texts that are printed. -/
theorem byt_dec {n : Nat} (h : n ≤ 9999) : Byt (decL n) := fun c hc => by
  rcases decL_cases h with ⟨h1, e⟩ | ⟨h1, h2, e⟩ | ⟨h1, h2, e⟩ | ⟨h1, e⟩ <;> (rw [e] at hc; simp at hc; omega)
theorem byt_fix : Byt tAll ∧ Byt tPct ∧ Byt tSl ∧ Byt tGt ∧ Byt tCo ∧ Byt tFull ∧ Byt tCol := by
  refine ⟨?_, ?_, ?_, ?_, ?_, ?_, ?_⟩ <;> (intro c hc; simp [tAll, tPct, tSl, tGt, tCo, tFull, tCol] at hc; omega)
theorem byt_rul {r : Pr} (h : PrOk r) : Byt (rulL r) := by
  obtain ⟨h1, h2, h3, h4⟩ := h
  obtain ⟨f1, f2, f3, f4, _⟩ := byt_fix
  unfold rulL
  refine Byt.append ?_ (f3.append ((byt_dec h2).append (f3.append ((byt_dec h3).append (f4.append (byt_dec h4))))))
  unfold shL
  split
  · exact f1
  · exact (byt_dec (by omega)).append f2
theorem byt_rls : ∀ R : List Pr, (∀ r ∈ R, PrOk r) → Byt (rlsL R)
  | [], _ => fun c hc => by simp [rlsL] at hc
  | [r], h => byt_rul (h r (by simp))
  | r :: s :: R, h => (byt_rul (h r (by simp))).append (byt_fix.2.2.2.2.1.append (byt_rls (s :: R) fun x hx => h x (by simp [hx])))
end Go.Proofs.Ytnoeefbipdpeaaa
