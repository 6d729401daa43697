/-
  Contracts of package arena's inner functions: the deferred closure, answer, span, the clone.
-/
import Derived.Test.YthecjlglcnpniaaMem
import Derived.WalkKit
import Derived.WalkLawsBesides
import Derived.Defers
import Derived.Recover
import Derived.LoopTactic
import Derived.Lib.Hide
import Derived.Lib.SliceRun
namespace Go.Proofs.Ythecjlglcnpniaa
open Go.RowKit
set_option linter.unusedVariables false

/-- The panic of this package with the error c. -/
def Fault (c : Int) : List PanicEntry := [{ v := .iface 49 (.agg #[.int .i64 c]), recovered := false }]

theorem hide {p : Prop} (h : p) : Hid p := h

theorem assert_fault (v : Value) (w : World) : (Instr.typeAssert (.iface 49 v) 20 49 true).run Try.prog w = .ok (.tuple #[v, .bool true]) w := by
  simp [Instr.typeAssert, run_underlying Try.underlying49, go_sem, Result.andThen]

theorem catch_word (pb : Nat) (x c : Int) (w : World) (hc : w.cell? ⟨pb, 0, none⟩ = some (.int .i64 x)) (hz : w.frozen? ⟨pb, 0, none⟩ = false) (hp : pb < w.heap.size) :
    CallsD Try.prog 29 #[.pointer (some ⟨pb, 0, none⟩)] (.panicking (Fault c)) w fun e u' w' =>
      e = .returned (.tuple #[]) ∧ u' = .panicking [{ v := .iface 49 (.agg #[.int .i64 c]), recovered := true }] ∧ w' = (w.setCell ⟨pb, 0, none⟩ (.int .i64 c)).alloc (.cells #[.int .i64 c] 49) := by
  refine callsD_of_wpS Try.func29 rfl fun c₀ cs hu => ?_
  have hn : ∀ w : World, (binOp BinOp.eql 20 (.iface 49 (.agg #[.int .i64 c])) .nilIface).run Try.prog w = .ok (.bool false) w := fun _ => rfl
  have ht : ∀ w : World, (Instr.typeAssert (.iface 49 (.agg #[.int .i64 c])) 20 49 true).run Try.prog w = .ok (.tuple #[.agg #[.int .i64 c], .bool true]) w := fun w => assert_fault _ w
  apply wpS_seq
  apply wpS_region
  simp [wpOpsS, go_sem, recoverD, hu, Try.ntmps29, Exit.thenS, Fault]
  refine wpS_of_wp ?_
  change Code.wp _ _ _ { tmps := #[.pointer (some ⟨pb, 0, none⟩), undef, undef, undef, .iface 49 (.agg #[.int .i64 c]), undef, undef, undef, undef, undef, undef, undef], defers := [] } w
  clear hu
  go_wp2_with fail
  exact ⟨rfl, _, rfl, _, by simp [results, Try.results29], rfl, rfl, rfl⟩

theorem idle_word (pb : Nat) (w : World) :
    CallsD Try.prog 29 #[.pointer (some ⟨pb, 0, none⟩)] .returning w fun e u' w' => e = .returned (.tuple #[]) ∧ u' = .returning ∧ w' = w := by
  refine callsD_of_wpS Try.func29 rfl fun c₀ cs hu => ?_
  have hn : ∀ w : World, (binOp BinOp.eql 20 .nilIface .nilIface).run Try.prog w = .ok (.bool true) w := fun _ => rfl
  apply wpS_seq
  apply wpS_region
  simp [wpOpsS, go_sem, recoverD, hu, Try.ntmps29, Exit.thenS]
  refine wpS_of_wp ?_
  change Code.wp _ _ _ { tmps := #[.pointer (some ⟨pb, 0, none⟩), undef, undef, undef, .nilIface, undef, undef, undef, undef, undef, undef, undef], defers := [] } w
  have hcs : c₀ :: cs = { c₀ with mode := .returning } :: cs := by cases c₀; simp_all
  go_wp2_with fail
  exact ⟨rfl, _, hcs, _, by simp [results, Try.results29], rfl, rfl, rfl⟩

theorem catch_words (pb : Nat) (x c : Int) (w : World) (hc : w.cell? ⟨pb, 0, none⟩ = some (.int .i64 x)) (hz : w.frozen? ⟨pb, 0, none⟩ = false) (hp : pb < w.heap.size) :
    CallsD Try.prog 30 #[.pointer (some ⟨pb, 0, none⟩)] (.panicking (Fault c)) w fun e u' w' =>
      e = .returned (.tuple #[]) ∧ u' = .panicking [{ v := .iface 49 (.agg #[.int .i64 c]), recovered := true }] ∧ w' = (w.setCell ⟨pb, 0, none⟩ (.int .i64 c)).alloc (.cells #[.int .i64 c] 49) := by
  refine callsD_of_wpS Try.func30 rfl fun c₀ cs hu => ?_
  have hn : ∀ w : World, (binOp BinOp.eql 20 (.iface 49 (.agg #[.int .i64 c])) .nilIface).run Try.prog w = .ok (.bool false) w := fun _ => rfl
  have ht : ∀ w : World, (Instr.typeAssert (.iface 49 (.agg #[.int .i64 c])) 20 49 true).run Try.prog w = .ok (.tuple #[.agg #[.int .i64 c], .bool true]) w := fun w => assert_fault _ w
  apply wpS_seq
  apply wpS_region
  simp [wpOpsS, go_sem, recoverD, hu, Try.ntmps30, Exit.thenS, Fault]
  refine wpS_of_wp ?_
  change Code.wp _ _ _ { tmps := #[.pointer (some ⟨pb, 0, none⟩), undef, undef, undef, .iface 49 (.agg #[.int .i64 c]), undef, undef, undef, undef, undef, undef, undef], defers := [] } w
  clear hu
  go_wp2_with fail
  exact ⟨rfl, _, rfl, _, by simp [results, Try.results30], rfl, rfl, rfl⟩

theorem idle_words (pb : Nat) (w : World) :
    CallsD Try.prog 30 #[.pointer (some ⟨pb, 0, none⟩)] .returning w fun e u' w' => e = .returned (.tuple #[]) ∧ u' = .returning ∧ w' = w := by
  refine callsD_of_wpS Try.func30 rfl fun c₀ cs hu => ?_
  have hn : ∀ w : World, (binOp BinOp.eql 20 .nilIface .nilIface).run Try.prog w = .ok (.bool true) w := fun _ => rfl
  apply wpS_seq
  apply wpS_region
  simp [wpOpsS, go_sem, recoverD, hu, Try.ntmps30, Exit.thenS]
  refine wpS_of_wp ?_
  change Code.wp _ _ _ { tmps := #[.pointer (some ⟨pb, 0, none⟩), undef, undef, undef, .nilIface, undef, undef, undef, undef, undef, undef, undef], defers := [] } w
  have hcs : c₀ :: cs = { c₀ with mode := .returning } :: cs := by cases c₀; simp_all
  go_wp2_with fail
  exact ⟨rfl, _, hcs, _, by simp [results, Try.results30], rfl, rfl, rfl⟩


/-- What a function of the program comes to when it is called through answer: it hands back a value v with R v, or panics with the error c. -/
def Gives (R : Value → World → Prop) (B : Nat) (w0 : World) (e : Ending) (w' : World) : Prop := ∃ v, e = .returned v ∧ R v w' ∧ Below B w0 w'
def Fails (c : Int) (B : Nat) (w0 : World) (e : Ending) (w' : World) : Prop := e = .panicked (Fault c) ∧ Below B w0 w'
def Answers (R : Value → World → Prop) (w : World) (e : Ending) (w' : World) : Prop :=
  ∃ v w1, e = .returned (.tuple #[v, .int .i64 0]) ∧ R v w1 ∧ Below (w.heap.size + 1) (w.alloc (.cells #[.int .i64 0] 27)) w1 ∧ w' = w1.setCell ⟨w.heap.size, 0, none⟩ (.int .i64 0)

theorem err_cell {w w1 : World} (hb : Below (w.heap.size + 1) (w.alloc (.cells #[.int .i64 0] 27)) w1) :
    w1.cell? ⟨w.heap.size, 0, none⟩ = some (.int .i64 0) ∧ w1.frozen? ⟨w.heap.size, 0, none⟩ = false ∧ w.heap.size < w1.heap.size ∧ Below w.heap.size w w1 := by
  have h0 : (w.alloc (.cells #[.int .i64 0] 27)).cell? ⟨w.heap.size, 0, none⟩ = some (.int .i64 0) := by go_simp
  have h1 : (w.alloc (.cells #[.int .i64 0] 27)).frozen? ⟨w.heap.size, 0, none⟩ = false := by go_simp
  refine ⟨(hb.cell (p := ⟨w.heap.size, 0, none⟩) (by simp)).trans h0, (hb.frozen (p := ⟨w.heap.size, 0, none⟩) (by simp)).trans h1, ?_, ?_⟩
  · have := hb.size
    simp at this
    omega
  · exact ((Below.refl _ w).alloc (Nat.le_refl _) _).trans (hb.mono (by omega))

theorem ret_word {F : Nat} {caps : Array Value} {R : Value → World → Prop} {w : World} (hF : ∀ w, (callFunc F caps).run Try.prog w = .ok (.enter F caps) w)
    (h : Calls Try.prog F caps (w.alloc (.cells #[.int .i64 0] 27)) (Gives R (w.heap.size + 1) (w.alloc (.cells #[.int .i64 0] 27)))) :
    Calls Try.prog 21 #[.func (.func F) #[] caps] w (Answers R w) := by
  have hmf : ∀ (fn : Fn) (first cap : Array Value) (w : World), (Instr.makeFunc fn first cap).run Try.prog w = .ok (.func fn first cap) w := fun _ _ _ _ => rfl
  have H := hide h
  clear h
  go_enter_defers Try.func21, Try.ntmps21
  go_wp2_with fail
  refine H.out.mono ?_
  rintro e w1 ⟨v, rfl, hR, hb⟩
  have HR := hide hR
  have HB := hide hb
  obtain ⟨c1, c2, c3, c4⟩ := err_cell hb
  clear hR hb c4
  go_wp2_with fail
  refine leaves_cons (f := 29) (args := #[.pointer (some ⟨w.heap.size, 0, none⟩)]) (by simp) (by simp [go_sem]) ?_
  refine (idle_word w.heap.size _).mono ?_
  rintro e u' w'' ⟨rfl, rfl, rfl⟩
  exact ⟨_, by simp [results, Try.results21, go_sem, c1], v, w1, rfl, HR.out, HB.out, rfl⟩

theorem fail_word {F : Nat} {caps : Array Value} {c : Int} {w : World} (hF : ∀ w, (callFunc F caps).run Try.prog w = .ok (.enter F caps) w)
    (h : Calls Try.prog F caps (w.alloc (.cells #[.int .i64 0] 27)) (Fails c (w.heap.size + 1) (w.alloc (.cells #[.int .i64 0] 27)))) :
    Calls Try.prog 21 #[.func (.func F) #[] caps] w fun e w' => e = .returned (.tuple #[.int .u64 0, .int .i64 c]) ∧ Below w.heap.size w w' := by
  have hmf : ∀ (fn : Fn) (first cap : Array Value) (w : World), (Instr.makeFunc fn first cap).run Try.prog w = .ok (.func fn first cap) w := fun _ _ _ _ => rfl
  have H := hide h
  clear h
  go_enter_defers Try.func21, Try.ntmps21
  go_wp2_with fail
  refine H.out.mono ?_
  rintro e w1 ⟨rfl, hb⟩
  obtain ⟨c1, c2, c3, c4⟩ := err_cell hb
  have H4 := hide c4
  clear hb c4
  go_wp2_with fail
  refine leaves_cons (f := 29) (args := #[.pointer (some ⟨w.heap.size, 0, none⟩)]) (by simp) (by simp [go_sem]) ?_
  refine (catch_word w.heap.size 0 c _ c1 c2 c3).mono ?_
  rintro e u' w'' ⟨rfl, rfl, rfl⟩
  refine ⟨_, by simp [results, Try.results21, go_sem, c1, c3], rfl, ?_⟩
  exact (H4.out.setCell (by simp) _).alloc (by simpa [World.setCell] using Nat.le_of_lt c3) _

theorem ret_words {F : Nat} {caps : Array Value} {R : Value → World → Prop} {w : World} (hF : ∀ w, (callFunc F caps).run Try.prog w = .ok (.enter F caps) w)
    (h : Calls Try.prog F caps (w.alloc (.cells #[.int .i64 0] 27)) (Gives R (w.heap.size + 1) (w.alloc (.cells #[.int .i64 0] 27)))) :
    Calls Try.prog 24 #[.func (.func F) #[] caps] w (Answers R w) := by
  have hmf : ∀ (fn : Fn) (first cap : Array Value) (w : World), (Instr.makeFunc fn first cap).run Try.prog w = .ok (.func fn first cap) w := fun _ _ _ _ => rfl
  have H := hide h
  clear h
  go_enter_defers Try.func24, Try.ntmps24
  go_wp2_with fail
  refine H.out.mono ?_
  rintro e w1 ⟨v, rfl, hR, hb⟩
  have HR := hide hR
  have HB := hide hb
  obtain ⟨c1, c2, c3, c4⟩ := err_cell hb
  clear hR hb c4
  go_wp2_with fail
  refine leaves_cons (f := 30) (args := #[.pointer (some ⟨w.heap.size, 0, none⟩)]) (by simp) (by simp [go_sem]) ?_
  refine (idle_words w.heap.size _).mono ?_
  rintro e u' w'' ⟨rfl, rfl, rfl⟩
  exact ⟨_, by simp [results, Try.results24, go_sem, c1], v, w1, rfl, HR.out, HB.out, rfl⟩

theorem fail_words {F : Nat} {caps : Array Value} {c : Int} {w : World} (hF : ∀ w, (callFunc F caps).run Try.prog w = .ok (.enter F caps) w)
    (h : Calls Try.prog F caps (w.alloc (.cells #[.int .i64 0] 27)) (Fails c (w.heap.size + 1) (w.alloc (.cells #[.int .i64 0] 27)))) :
    Calls Try.prog 24 #[.func (.func F) #[] caps] w fun e w' => e = .returned (.tuple #[.slice none 0 0, .int .i64 c]) ∧ Below w.heap.size w w' := by
  have hmf : ∀ (fn : Fn) (first cap : Array Value) (w : World), (Instr.makeFunc fn first cap).run Try.prog w = .ok (.func fn first cap) w := fun _ _ _ _ => rfl
  have H := hide h
  clear h
  go_enter_defers Try.func24, Try.ntmps24
  go_wp2_with fail
  refine H.out.mono ?_
  rintro e w1 ⟨rfl, hb⟩
  obtain ⟨c1, c2, c3, c4⟩ := err_cell hb
  have H4 := hide c4
  clear hb c4
  go_wp2_with fail
  refine leaves_cons (f := 30) (args := #[.pointer (some ⟨w.heap.size, 0, none⟩)]) (by simp) (by simp [go_sem]) ?_
  refine (catch_words w.heap.size 0 c _ c1 c2 c3).mono ?_
  rintro e u' w'' ⟨rfl, rfl, rfl⟩
  refine ⟨_, by simp [results, Try.results24, go_sem, c1, c3], rfl, ?_⟩
  exact (H4.out.setCell (by simp) _).alloc (by simpa [World.setCell] using Nat.le_of_lt c3) _


theorem ret_slice {A A' : Option Addr} {n n' c c' : Nat} (h1 : A = A') (h2 : n = n') (h3 : c = c') : Ending.returned (.slice A n c) = .returned (.slice A' n' c') := by rw [h1, h2, h3]

/-- span hands back the words. -/
def spanA (A : Option Addr) (c : Nat) (a : Int) : Option Addr := if c = a.toNat then A else A.map (·.add a.toNat)

theorem span_ok (A : Option Addr) (n c : Nat) (a k : Int) (w : World) (h0 : 0 ≤ k) (h1 : 0 ≤ a) (h2 : k ≤ n - a) (hc : n ≤ c) (hm : c ≤ maxLen) (hA : A = none → c = 0) :
    Calls Try.prog 23 #[.slice A n c, .int .i64 a, .int .i64 k] w fun e w' => e = .returned (.slice (spanA A c a) k.toNat (c - a.toNat)) ∧ w = w' := by
  unfold maxLen at hm
  go_enter Try.func23, Try.ntmps23
  go_wp2_with fail
  · go_ret
    exact ⟨ret_slice (by simp [spanA]) (by omega) (by omega), rfl⟩
  · go_ret
    exact ⟨ret_slice (by simp [spanA, *]) (by omega) (by omega), rfl⟩

theorem span_neg (A : Option Addr) (n c : Nat) (a k : Int) (w : World) (h0 : k < 0) :
    Calls Try.prog 23 #[.slice A n c, .int .i64 a, .int .i64 k] w fun e w' => e = .panicked (Fault 1) ∧ w = w' := by
  go_enter Try.func23, Try.ntmps23
  go_wp2
  exact ⟨rfl, rfl, rfl⟩

theorem span_out (A : Option Addr) (n c : Nat) (a k : Int) (w : World) (h0 : 0 ≤ k) (h1 : a < 0 ∨ n - a < k) (hc : n ≤ c) (hm : c ≤ maxLen) (b0 : -9223372036854775808 ≤ a) (b1 : a ≤ 9223372036854775807) :
    Calls Try.prog 23 #[.slice A n c, .int .i64 a, .int .i64 k] w fun e w' => e = .panicked (Fault 2) ∧ w = w' := by
  unfold maxLen at hm
  by_cases h : a < 0
  · go_enter Try.func23, Try.ntmps23
    go_wp2
    exact ⟨rfl, rfl, rfl⟩
  · have h3 : (n : Int) - a < k := by omega
    have h4 : 0 ≤ a := by omega
    go_enter Try.func23, Try.ntmps23
    go_wp2
    exact ⟨rfl, rfl, rfl⟩
end Go.Proofs.Ythecjlglcnpniaa
