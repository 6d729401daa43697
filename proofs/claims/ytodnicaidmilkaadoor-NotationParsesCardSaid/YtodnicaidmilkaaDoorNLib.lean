/-
  What the library's functions say, in lists of bytes: Itoa, Join, HasPrefix, Clone.
-/
import Derived.Test.YtodnicaidmilkaaDoorNStr
import Derived.Test.YtodnicaidmilkaaDoorShelf
import Derived.Test.YtodnicaidmilkaaDoorCards
import Derived.ProofKit
import Derived.LaidMore
import Derived.OpenShut
import Derived.Stop.Joined
import Derived.MakeChecks
import Derived.FnData
namespace Go.Proofs.YtodnicaidmilkaaDoor
open Go.ChangeShapes Go.WideShapes Go.ChangeAt Go.RowKit
set_option maxRecDepth 100000
set_option linter.unusedVariables false

/-- The table of powers of ten lies as the program's text lays it. -/
def P10 (w : World) : Prop := Lib.TabIs Tryd.prog w "internal/strconv.uint64pow10" .u64 Lib.pow10Tab
theorem gP10 : Tryd.prog.globalNamed "internal/strconv.uint64pow10" = some 1 := by kernel_rfl
theorem P10.next {w w' : World} (h : P10 w) (hb : Below w.heap.size w w') : P10 w' := by
  have hlt : 1 < w.heap.size := by
    have hc := h.cell gP10 0 (by decide)
    rcases Nat.lt_or_ge 1 w.heap.size with h' | h'
    · exact h'
    · simp [World.cell?, Array.getElem?_eq_none h'] at hc
  have hk := hb.block _ hlt
  unfold P10 Lib.TabIs at h ⊢
  rw [← h]
  unfold World.var?
  rw [gP10]
  simp only [Option.bind_some]
  rw [hk]

theorem dec_eq (n : Nat) : Lib.decDigits n = (decL n).map UInt8.ofNat := by
  induction n using Nat.strongRecOn with
  | _ n ih =>
    by_cases h : n < 10
    · rw [Lib.decDigits, dif_pos h, decL, dif_pos h]; rfl
    · rw [Lib.decDigits, dif_neg h, decL, dif_neg h, ih (n / 10) (by omega), List.map_append]; rfl
theorem dec_tx (n : Nat) : (ByteArray.mk (Lib.decDigits n).toArray) = tx (decL n) := by rw [dec_eq]; rfl
theorem itoaS (n : Nat) (hn : n < 100) (w : World) : Calls Tryd.prog 21 #[.int .i64 (n : Int)] w fun e w' => e = .returned (.string (tx (decL n))) ∧ w' = w := by
  have := Tryd.strconv_Itoa_small n hn w
  rw [dec_tx] at this
  exact this
theorem itoa_any (n : Nat) (hn : n ≤ 9999) (w : World) (hT : P10 w) : Calls Tryd.prog 21 #[.int .i64 (n : Int)] w fun e w' => e = .returned (.string (tx (decL n))) ∧ Below w.heap.size w w' := by
  have h := Tryd.strconv_Itoa (n : Int) (by omega) (by omega) w hT
  have e : Lib.itoa (n : Int) = Lib.decDigits n := by
    unfold Lib.itoa
    rw [if_neg (by omega), Int.toNat_natCast]
  rw [e, dec_tx] at h
  refine h.mono ?_
  rintro e w' ⟨rfl, k, os, rfl⟩
  refine ⟨rfl, rfl, rfl, rfl, ?_, fun j hj => ?_⟩
  · show w.heap.size ≤ (w.heap ++ os).size
    rw [Array.size_append]; omega
  · show (w.heap ++ os)[j]? = w.heap[j]?
    exact Array.getElem?_append_left hj

theorem bytes_tx (L : List Nat) : (tx L).data.toList = L.map UInt8.ofNat := by
  show (L.map UInt8.ofNat).toArray.toList = _
  simp
theorem isPre_map {t L : List Nat} (ht : Byt t) (hL : Byt L) : (t.map UInt8.ofNat).isPrefixOf (L.map UInt8.ofNat) = t.isPrefixOf L := by
  induction t generalizing L with
  | nil => rfl
  | cons c t ih =>
    cases L with
    | nil => rfl
    | cons d L =>
      rw [List.map_cons, List.map_cons, List.isPrefixOf_cons_cons, List.isPrefixOf_cons_cons, ih (fun x hx => ht x (by simp [hx])) (fun x hx => hL x (by simp [hx]))]
      congr 1
      have h1 := ht c (by simp)
      have h2 := hL d (by simp)
      rw [Bool.eq_iff_iff, beq_iff_eq, beq_iff_eq]
      constructor
      · intro h
        have := congrArg UInt8.toNat h
        rw [UInt8.toNat_ofNat', UInt8.toNat_ofNat', Nat.mod_eq_of_lt (by omega), Nat.mod_eq_of_lt (by omega)] at this
        exact this
      · rintro rfl; rfl
theorem hasPre_any (t L : List Nat) (ht : Byt t) (hL : Byt L) (w : World) : Calls Tryd.prog 62 #[.string (tx L), .string (tx t)] w fun e w' => e = .returned (.bool (t.isPrefixOf L)) ∧ w' = w := by
  have h := Tryd.strings_HasPrefix (tx L) (tx t) w
  rw [bytes_tx, bytes_tx] at h
  unfold Lib.hasPrefix at h
  rw [isPre_map ht hL] at h
  exact h
theorem clone_any (L : List Nat) (h : L.length ≤ 1048576) (w : World) : Calls Tryd.prog 49 #[.string (tx L)] w fun e w' => e = .returned (.string (tx L)) ∧ Below w.heap.size w w' := by
  have hc := Tryd.stringslite_Clone (tx L) w (by rw [tx_size]; omega)
  generalize tx L = s at hc
  go_enter Tryd.func49, Tryd.ntmps49
  go_wp2_with fail
  refine hc.mono ?_
  rintro e w' ⟨rfl, hb⟩
  have HB := Lib.hid hb
  clear hc hb
  go_wp2
  go_ret
  exact ⟨rfl, HB.out⟩

theorem join_rls : ∀ P : List Pr, Lib.join ((P.map rulL).map fun l => l.map UInt8.ofNat) (tCo.map UInt8.ofNat) = (rlsL P).map UInt8.ofNat
  | [] => rfl
  | [r] => by rw [List.map_cons, List.map_cons, List.map_nil, List.map_nil, Lib.join_one]; rfl
  | r :: s :: P => by
    have ih := join_rls (s :: P)
    have e : rlsL (r :: s :: P) = rulL r ++ (tCo ++ rlsL (s :: P)) := rfl
    have e1 : ((r :: s :: P).map rulL).map (fun l => l.map UInt8.ofNat) = (rulL r).map UInt8.ofNat :: (((s :: P).map rulL).map fun l => l.map UInt8.ofNat) := rfl
    have e2 : ((s :: P).map rulL).map (fun l => l.map UInt8.ofNat) = (rulL s).map UInt8.ofNat :: ((P.map rulL).map fun l => l.map UInt8.ofNat) := rfl
    rw [e, List.map_append, List.map_append, ← ih, e1, e2, Lib.join_cons, Lib.join_cons]
    simp only [Lib.joinTail, List.map_cons, List.flatten_cons, List.append_assoc]
theorem join_any (b c : Nat) (P : List Pr) (w : World) (hcells : ∀ (j : Nat) (r : Pr), P[j]? = some r → w.cell? ⟨b, 0 + j, none⟩ = some (.string (tx (rulL r)))) (hb : b < w.heap.size) (hc : P.length ≤ c) (hP : P.length ≤ 4) (hl : (rlsL P).length ≤ 1048576) :
    Calls Tryd.prog 22 #[.slice (some ⟨b, 0, none⟩) P.length c, .string (tx tCo)] w fun e w' => e = .returned (.string (tx (rlsL P))) ∧ Below w.heap.size w w' := by
  have e0 : ((P.map fun r => tx (rulL r)).map (·.data.toList)) = (P.map rulL).map fun l => l.map UInt8.ofNat := by
    rw [List.map_map, List.map_map]
    exact List.map_congr_left fun r _ => bytes_tx _
  have e1 : Lib.join ((P.map fun r => tx (rulL r)).map (·.data.toList)) (tx tCo).data.toList = (rlsL P).map UInt8.ofNat := by rw [e0, bytes_tx, join_rls]
  have h := Tryd.strings_Join b 0 c (P.map fun r => tx (rulL r)) (tx tCo) w (fun j x hx => by
    rw [List.getElem?_map] at hx
    obtain ⟨r, hr, rfl⟩ := Option.map_eq_some_iff.1 hx
    exact hcells j r hr) hb (by rw [List.length_map]; omega) (by rw [List.length_map]; exact hc) (by rw [e1, List.length_map]; omega)
  rw [e1, List.length_map] at h
  exact h
end Go.Proofs.YtodnicaidmilkaaDoor
