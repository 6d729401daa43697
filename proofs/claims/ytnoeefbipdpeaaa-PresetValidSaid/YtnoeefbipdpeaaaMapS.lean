/-
  Maps with strings as keys that a call makes: an entry that is put in behind others, a look-up by the first entry that fits.
-/
import Derived.Test.YtnoeefbipdpeaaaMBase
import Derived.WideMake
import Derived.MapKept
namespace Go.Proofs.Ytnoeefbipdpeaaa
open Go.RowKit
set_option maxRecDepth 100000
set_option linter.unusedVariables false

/-- The entries, as pairs of a key and a value. -/
def mapE (l : List (ByteArray × Value)) : Array MapEntry := (l.zipIdx.map fun x => { key := .string x.1.1, val := x.1.2, born := x.2 }).toArray
/-- What a key finds. -/
def mapF (k : ByteArray) : List (ByteArray × Value) → Option Value
  | [] => none
  | x :: l => if k = x.1 then some x.2 else mapF k l
theorem find_now (k : ByteArray) : ∀ (l : List (ByteArray × Value)) (i n : Nat), (Instr.findNow .string (.string k) ((l.zipIdx n).map fun x => { key := .string x.1.1, val := x.1.2, born := x.2 }) i).map (·.map (·.2)) = some (mapF k l)
  | [], i, n => rfl
  | x :: l, i, n => by
    have ih := find_now k l (i + 1) (n + 1)
    rw [List.zipIdx_cons, List.map_cons]
    unfold Instr.findNow
    simp only [Instr.sameNow]
    unfold mapF
    by_cases h : k = x.1
    · have hb : (k == x.1) = true := (MapKept.bytes_beq _ _).2 h
      rw [hb, if_pos h]
      rfl
    · have hb : (k == x.1) = false := by
        rcases e : (k == x.1) with _ | _
        · rfl
        · exact absurd ((MapKept.bytes_beq _ _).1 e) h
      rw [hb, if_neg h]
      exact ih
theorem mapE_snoc (l : List (ByteArray × Value)) (k : ByteArray) (v : Value) : mapE (l ++ [(k, v)]) = (mapE l).push { key := .string k, val := v, born := l.length } := by
  unfold mapE
  simp [List.zipIdx_append]
theorem mapE_size (l : List (ByteArray × Value)) : (mapE l).size = l.length := by simp [mapE]
theorem find_key (k : ByteArray) (l : List (ByteArray × Value)) : ∃ r, Instr.findNow .string (.string k) (mapE l).toList 0 = some r ∧ r.map (·.2) = mapF k l := by
  have h := find_now k l 0 0
  have e : (mapE l).toList = (l.zipIdx.map fun x => { key := .string x.1.1, val := x.1.2, born := x.2 }) := by simp [mapE]
  rw [e]
  rcases hf : Instr.findNow .string (.string k) ((l.zipIdx 0).map fun x => { key := .string x.1.1, val := x.1.2, born := x.2 }) 0 with _ | r
  · rw [hf] at h
    cases h
  · rw [hf] at h
    have h : some (r.map (·.2)) = some (mapF k l) := h
    injection h with h
    exact ⟨r, hf, h⟩
/-- An entry put in behind others, none of which has its key, in the map that was made last. -/
theorem map_put {P : Program} (t K E : TypeId) (ht : P.underlying t = some (.map K E)) (hK : P.underlying K = some .string) (w : World) (B : Nat) (hB : B = w.heap.size) (l : List (ByteArray × Value)) (k : ByteArray) (v : Value) (hn : mapF k l = none) :
    (Instr.mapUpdate t (.map (some B)) (.string k) v).run P (w.alloc (.map (mapE l) l.length)) = .ok () (w.alloc (.map (mapE (l ++ [(k, v)])) (l ++ [(k, v)]).length)) := by
  subst hB
  obtain ⟨r, h1, h2⟩ := find_key k l
  rw [hn] at h2
  have h3 : r = none := by cases r with
    | none => rfl
    | some x => cases h2
  subst h3
  have hb : (w.alloc (.map (mapE l) l.length)).heap[w.heap.size]? = some (.map (mapE l) l.length) := heap_alloc_new w _
  have hc : (Instr.checkKey false 10000 K (.string k)).run P (w.alloc (.map (mapE l) l.length)) = .ok () (w.alloc (.map (mapE l) l.length)) := MapKept.run_checkKey (k := .string k) hK (by simp [MapKept.IsKey]) false 9999
  have hs : ({ (w.alloc (.map (mapE l) l.length)) with heap := (w.alloc (.map (mapE l) l.length)).heap.setIfInBounds w.heap.size (.map (mapE (l ++ [(k, v)])) (l.length + 1)) } : World) = w.alloc (.map (mapE (l ++ [(k, v)])) (l ++ [(k, v)]).length) := by
    have e : ∀ (a : Array Obj) (x y : Obj), (a.push x).setIfInBounds a.size y = a.push y := by
      intro a x y
      apply Array.ext_getElem?
      intro i
      rw [Array.getElem?_setIfInBounds, Array.getElem?_push, Array.getElem?_push]
      by_cases h : a.size = i
      · subst h
        simp
      · rw [if_neg h, if_neg (fun e => h e.symm), if_neg (fun e => h e.symm)]
    show ({ w with heap := (w.heap.push _).setIfInBounds w.heap.size _ } : World) = { w with heap := w.heap.push _ }
    rw [e, List.length_append]
    rfl
  rw [mapE_snoc] at hs ⊢
  simp [Instr.mapUpdate, run_underlying ht, MapKept.run_getObj_map hb, hc, MapKept.run_findKey hK h1, MapKept.run_setObj_map _ hb, Result.andThen]
  simpa using hs
/-- What a look-up says. -/
theorem map_look {P : Program} (t K E : TypeId) (ht : P.underlying t = some (.map K E)) (hK : P.underlying K = some .string) (z : Value) (w : World) (hz : (zeroValue E).run P w = .ok z w) (B : Nat) (l : List (ByteArray × Value)) (c : Nat) (hB : w.heap[B]? = some (.map (mapE l) c)) (k : ByteArray) :
    (Instr.lookup t (.map (some B)) (.string k) true).run P w = .ok (.tuple #[(mapF k l).getD z, .bool (mapF k l).isSome]) w := by
  obtain ⟨r, h1, h2⟩ := find_key k l
  have hc : ∀ b, (Instr.checkKey b 10000 K (.string k)).run P w = .ok () w := fun b => MapKept.run_checkKey (k := .string k) hK (by simp [MapKept.IsKey]) b 9999
  rw [← h2]
  rcases r with _ | x
  · simp [Instr.lookup, run_underlying ht, MapKept.run_getObj_map hB, hc, MapKept.run_findKey hK h1, hz, Result.andThen]
  · simp [Instr.lookup, run_underlying ht, MapKept.run_getObj_map hB, hc, MapKept.run_findKey hK h1, Result.andThen]
end Go.Proofs.Ytnoeefbipdpeaaa
