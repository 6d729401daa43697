/-
  Package remset as it landed: a set of numbers as a map; sets deleted in place; Drop.
-/
import Derived.Test.YtjkbjbikofindaaRDe
import Derived.Maps.OwnOps
import Derived.Maps.Views
namespace Go.Proofs.Ytjkbjbikofindaa
open Go.RowKit Go.Maps
set_option maxRecDepth 100000
set_option linter.unusedVariables false

/-- A number that an int may be. -/
def in64 (x : Int) : Prop := -9223372036854775808 ≤ x ∧ x ≤ 9223372036854775807
theorem in64_wf {x : Int} (h : in64 x) : (Lit.int .i64 x).wf = true := WalkArith.wf_i64 h
/-- Block b is a map in which just the numbers F are true. -/
def Elems (w : World) (b : Nat) (F : List Int) : Prop := ∃ D, w.ownsMap (H := Unit) Try.prog 3 (plainElem Try.prog 4) b F.length D ∧ ∀ x, in64 x → D.atKey (.int .i64 x) (.lit (.bool false)) = .lit (.bool (decide (x ∈ F)))
section
variable {w w' : World} {b : Nat} {F : List Int}
theorem Elems.next (h : Elems w b F) (hb : Below w.heap.size w w') : Elems w' b F := by
  obtain ⟨D, h1, h2⟩ := h
  exact ⟨D, h1.kept (row := none) ⟨hb.os, hb.tape, hb.output, hb.size, fun k hk _ => hb.block k hk⟩ (by simp), h2⟩
theorem Elems.far (h : Elems w b F) {row : Option Nat} (hg : w.grownBy w' row) (hn : some b ≠ row) : Elems w' b F := by
  obtain ⟨D, h1, h2⟩ := h
  exact ⟨D, h1.kept hg hn, h2⟩
theorem Elems.lt (h : Elems w b F) : b < w.heap.size := by
  obtain ⟨D, h1, _⟩ := h
  exact h1.lt
theorem plainElem_bool_inv {P : Program} {e : TypeId} (he : P.underlying e = some .bool) {v : Value} {q : Bool} {ps : List MemPlace} (h : plainElem (H := Unit) P e v = some (.lit (.bool q), ps)) : v = .bool q := by
  unfold plainElem at h
  rw [he] at h
  cases v <;> simp at h
  rw [h.1]
theorem Elems.look (h : Elems w b F) {x : Int} (hx : in64 x) : (Instr.lookup 91 (.map (some b)) (.int .i64 x) false).run Try.prog w = .ok (.bool (decide (x ∈ F))) w := by
  obtain ⟨D, h1, h2⟩ := h
  have hz : (zeroValue 4).run Try.prog w = .ok (.bool false) w := by kernel_rfl
  obtain ⟨v, ps, hrun, hv⟩ := h1.lookup (zd := .lit (.bool false)) (zp := []) (int_keyed Try.underlying3) Try.underlying91 hz (plainElem_bool Try.underlying4 false) (keyOf_int_mk Try.underlying3 (in64_wf hx))
  rw [h2 x hx] at hv
  rw [plainElem_bool_inv Try.underlying4 hv] at hrun
  exact hrun
end
/-- A map of numbers is made. -/
def MapOf (F : List Int) (w : World) (e : Ending) (w' : World) : Prop := ∃ b, e = .returned (.map (some b)) ∧ w.heap.size ≤ b ∧ Elems w' b F ∧ Below w.heap.size w w'
theorem elems_next {D : DataW Unit} (hD : IsMap D) {F : List Int} {y : Int} (h : ∀ x, in64 x → D.atKey (.int .i64 x) (.lit (.bool false)) = .lit (.bool (decide (x ∈ F)))) :
    ∀ x, in64 x → (D.put (.int .i64 y) (.lit (.bool true))).atKey (.int .i64 x) (.lit (.bool false)) = .lit (.bool (decide (x ∈ F ++ [y]))) := by
  intro x hx
  by_cases e : x = y
  · subst e
    rw [atKey_put_same hD (by first | exact trivial | decide | simp [WideAt.IsKeyLit] | exact ⟨_, rfl⟩)]
    simp
  · rw [atKey_put_other (by intro h2; injection h2 with h3 h4; exact e h4), h x hx]
    simp [e]
set_option maxHeartbeats 2000000 in
theorem elements_any (A : Option Addr) (c : Nat) (F : List Int) (w : World) (hF : SArr w (Lt w.heap.size) A c F) (hi : ∀ x ∈ F, in64 x) : Calls Try.prog 52 #[.slice A F.length c] w (MapOf F w) := by
  have HF := Lib.hid hF
  have HI := Lib.hid hi
  have hm := hF.2.1
  have hm' := hF.1
  simp only [maxLen] at hm
  clear hF hi
  have hmm := @run_makeMap Try.prog
  go_enter Try.func52, Try.ntmps52
  go_wp2_with fail
  clear hmm
  go_loopw [9] (fun i wr => ∃ t : Nat, t ≤ F.length ∧ i = .int .i64 t ∧ Elems wr w.heap.size (F.take t) ∧ Below w.heap.size w wr) (fun i _ => F.length - (intOf i).toNat)
  case atStart => exact ⟨0, by omega, rfl, ⟨_, World.ownsMap_made _ _ _ _, fun x hx => by simp [DataW.atKey]⟩, (Below.refl _ _).alloc (Nat.le_refl _) _⟩
  case round =>
    obtain ⟨t, ht, rfl, he, hb⟩ := hrel
    have HE := Lib.hid he
    have HB := Lib.hid hb
    clear he hb
    by_cases hlt : t < F.length
    · have hlt2 : 0 ≤ (t : Int) ∧ (t : Int) < F.length := by omega
      obtain ⟨x, hx⟩ := nth_of hlt
      obtain ⟨b, o, rfl, _, _, c0⟩ := (HF.out.next HB.out).at_ hx
      have HX := Lib.hid hx
      have HIX := Lib.hid (HI.out x (List.mem_iff_getElem?.2 ⟨t, hx⟩))
      have HLT := Lib.hid (show (F.take t).length < maxLen by unfold maxLen; simp; omega)
      clear hx
      obtain ⟨D, hown, hat⟩ := HE.out
      have HOWN := Lib.hid hown
      have HAT := Lib.hid hat
      clear hown hat
      go_wp2_with (at_mapUpdate; refine wpList_mapUpdate_own _ rfl _ _ _ 91 rfl 3 4 (int_keyed Try.underlying3) Try.underlying91 _ w.heap.size _ D rfl HOWN.out HLT.out _ _ _ rfl rfl (keyOf_int_mk Try.underlying3 (in64_wf HIX.out)) _ [] (plainElem_bool Try.underlying4 true) ?_; intro w1 hown1 hgr1)
      have hmap : IsMap D := by obtain ⟨_, _, _, _, _, hD⟩ := HOWN.out; exact ⟨_, hD⟩
      refine ⟨⟨t + 1, by omega, by go_num, ?_, ?_⟩, by simp [intOf]; omega⟩
      · rw [List.take_add_one, HX.out]
        refine ⟨_, ?_, elems_next hmap HAT.out⟩
        simpa using hown1
      · exact HB.out.trans (grown_below hgr1 (fun k hk => by injection hk with hk; omega) HB.out.size)
    · have hlt2 : ¬ (t : Int) < F.length := by omega
      obtain rfl : t = F.length := by omega
      have HEE := Lib.hid (show Elems wr w.heap.size F by have h := HE.out; rw [List.take_length] at h; exact h)
      go_wp2_with fail
      go_ret
      exact ⟨_, rfl, Nat.le_refl _, HEE.out, HB.out⟩
end Go.Proofs.Ytjkbjbikofindaa
