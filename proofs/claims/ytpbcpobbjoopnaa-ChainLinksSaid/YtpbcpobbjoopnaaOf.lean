/-
  Contracts: Of, Base, Pair, Unpair of package frame and of the reference.
-/
import Derived.Test.YtpbcpobbjoopnaaFr
import Derived.Laws.BitsAllLaws
import Derived.Laws.BitsLemmas
import Derived.Laws.ShiftsVarLaws
namespace Go.Proofs.Ytpbcpobbjoopnaa
open Go.RowKit
set_option linter.unusedVariables false

/-- The errors of chapter 3: 1, the shift or the number of frames is not permitted; 2, outside. -/
def ofE (s : Int) (n : Nat) (a : Int) : Int := if numB s n = false then 1 else if a < 0 ∨ n * 2 ^ s.toNat ≤ a then 2 else 0
def ofF (s : Int) (n : Nat) (a : Int) : Int := if ofE s n a = 0 then a / 2 ^ s.toNat else 0
def ofO (s : Int) (n : Nat) (a : Int) : Int := if ofE s n a = 0 then a % 2 ^ s.toNat else 0

def Gives3 (x y z : Int) (w : World) (e : Ending) (w' : World) : Prop := e = .returned (.tuple #[.int .i64 x, .int .i64 y, .int .i64 z]) ∧ Below w.heap.size w w'
def Gives2 (x y : Int) (w : World) (e : Ending) (w' : World) : Prop := e = .returned (.tuple #[.int .i64 x, .int .i64 y]) ∧ Below w.heap.size w w'

theorem numB_yes {s : Int} {n : Nat} (h : numB s n = true) : ∃ k : Nat, s = k ∧ 3 ≤ k ∧ k ≤ 8 ∧ n ≤ 64 := by
  simp [numB, shB] at h
  exact ⟨s.toNat, by omega, by omega, by omega, h.2⟩

theorem prod_bd {n k : Nat} (hn : n ≤ 64) (hk : k ≤ 8) : 0 ≤ (n : Int) * 2 ^ k ∧ (n : Int) * 2 ^ k ≤ 16384 := by
  have p0 := pw_pos k
  have p1 := pw_bd hk
  constructor
  · exact Int.mul_nonneg (by omega) (by omega)
  · have := Int.mul_le_mul (show (n : Int) ≤ 64 by omega) p1 (by omega) (by omega)
    omega

theorem bcell {W w1 : World} {B : Nat} (hb : Below B W w1) : (∀ b o, b < B → w1.cell? ⟨b, o, none⟩ = W.cell? ⟨b, o, none⟩) ∧ (∀ b o, b < B → w1.frozen? ⟨b, o, none⟩ = W.frozen? ⟨b, o, none⟩) :=
  ⟨fun b o h => hb.cell (p := ⟨b, o, none⟩) h, fun b o h => hb.frozen (p := ⟨b, o, none⟩) h⟩

theorem ofInt_i64 (a : Nat) (ha : a < 9223372036854775808) : (BitVec.ofInt 64 (a : Int)).toNat = a := by
  rw [BitVec.ofInt_natCast, BitVec.toNat_ofNat]; exact Nat.mod_eq_of_lt (by omega)
theorem i64_and_nat (a b : Nat) (ha : a < 9223372036854775808) (hb : b < 9223372036854775808) : bits .and .i64 (a : Int) (b : Int) = ((a &&& b : Nat) : Int) := by
  have hx : a &&& b < 2 ^ 63 := Nat.and_lt_two_pow _ (by omega)
  show IntKind.i64.wrap ((BitVec.ofInt 64 (a : Int) &&& BitVec.ofInt 64 (b : Int)).toNat : Int) = _
  rw [BitVec.toNat_and, ofInt_i64 a ha, ofInt_i64 b hb, IntKind.wrap_i64]
  omega
theorem and_low (a : Int) (k : Nat) (h0 : 0 ≤ a) (h1 : a ≤ 9223372036854775807) (hk : k ≤ 8) : bits .and .i64 a (IntKind.i64.wrap (2 ^ k - 1)) = a % 2 ^ k := by
  obtain ⟨x, rfl⟩ := Int.eq_ofNat_of_zero_le h0
  have p0 := pw_pos k
  have p1 := pw_bd hk
  have e : IntKind.i64.wrap ((2 : Int) ^ k - 1) = ((2 ^ k - 1 : Nat) : Int) := by
    rw [IntKind.wrap_i64]
    have : ((2 ^ k - 1 : Nat) : Int) = (2 : Int) ^ k - 1 := by
      have h3 : ((2 ^ k : Nat) : Int) = (2 : Int) ^ k := by simp
      have h4 : 1 ≤ 2 ^ k := Nat.one_le_two_pow
      omega
    omega
  have hp : (2 ^ k - 1 : Nat) < 9223372036854775808 := by
    have h3 : ((2 ^ k : Nat) : Int) = (2 : Int) ^ k := by simp
    omega
  rw [e, i64_and_nat x _ (by omega) hp, Nat.and_two_pow_sub_one_eq_mod]
  simp

theorem ret3 {a b c a' b' c' : Int} (h1 : a = a') (h2 : b = b') (h3 : c = c') : Ending.returned (.tuple #[.int .i64 a, .int .i64 b, .int .i64 c]) = .returned (.tuple #[.int .i64 a', .int .i64 b', .int .i64 c']) := by rw [h1, h2, h3]

theorem below_box {w w1 : World} {o : Obj} (h : Below (w.alloc o).heap.size (w.alloc o) w1) : Below w.heap.size w w1 := ((Below.refl _ _).alloc (Nat.le_refl _) _).trans (h.mono (by simp))
theorem below_next {B : Nat} {w w1 w2 : World} (h : Below B w w1) (hB : B ≤ w.heap.size) (h2 : Below w1.heap.size w1 w2) : Below B w w2 := h.trans (h2.mono (Nat.le_trans hB h.size))

/-- A box of three cells, where nothing below B has turned since it was made. -/
theorem box3 {w wr : World} {v0 v1 v2 : Value} {t : TypeId} {B : Nat} (hb : Below B (w.alloc (.cells #[v0, v1, v2] t)) wr) (hB : w.heap.size < B) :
    w.heap.size < wr.heap.size ∧ wr.cell? ⟨w.heap.size, 0, none⟩ = some v0 ∧ wr.cell? ⟨w.heap.size, 1, none⟩ = some v1 ∧ wr.cell? ⟨w.heap.size, 2, none⟩ = some v2 ∧
      wr.frozen? ⟨w.heap.size, 0, none⟩ = false ∧ wr.frozen? ⟨w.heap.size, 1, none⟩ = false ∧ wr.frozen? ⟨w.heap.size, 2, none⟩ = false := by
  have hz := hb.size
  simp at hz
  refine ⟨by omega, ?_, ?_, ?_, ?_, ?_, ?_⟩
  · rw [hb.cell (p := ⟨w.heap.size, 0, none⟩) hB]; go_simp
  · rw [hb.cell (p := ⟨w.heap.size, 1, none⟩) hB]; go_simp
  · rw [hb.cell (p := ⟨w.heap.size, 2, none⟩) hB]; go_simp
  · rw [hb.frozen (p := ⟨w.heap.size, 0, none⟩) hB]; go_simp
  · rw [hb.frozen (p := ⟨w.heap.size, 1, none⟩) hB]; go_simp
  · rw [hb.frozen (p := ⟨w.heap.size, 2, none⟩) hB]; go_simp

theorem of_any (s : Int) (V1 : Value) (A : Option Addr) (n c : Nat) (a : Int) (w : World) (a0 : -9223372036854775808 ≤ a) (a1 : a ≤ 9223372036854775807) :
    Calls Try.prog 40 #[.agg #[.int .i64 s, V1, .slice A n c], .int .i64 a] w (Gives3 (ofF s n a) (ofO s n a) (ofE s n a) w) := by
  rcases hn : numB s n with _ | _
  · have e1 : ofE s n a = 1 := by simp [ofE, hn]
    have e2 : ofF s n a = 0 := by simp [ofF, e1]
    have e3 : ofO s n a = 0 := by simp [ofO, e1]
    rw [e1, e2, e3]
    have H := Lib.hid hn
    clear hn e1 e2 e3
    go_enter Try.func40, Try.ntmps40
    go_wp2_with (go_at_call 58; refine (hasNumbers_any _ _ _ _ _ _).mono ?_; rintro e w1 ⟨rfl, hb⟩; rw [H.out]; have HB := Lib.hid hb; clear hb)
    go_ret3
    exact ⟨rfl, below_box HB.out⟩
  · obtain ⟨k, rfl, k1, k2, n1⟩ := numB_yes hn
    have p0 := pw_pos k
    have p1 := pw_bd k2
    obtain ⟨q0, q1⟩ := prod_bd n1 k2
    by_cases h0 : a < 0
    · have e1 : ofE k n a = 2 := by simp [ofE, hn]; omega
      have e2 : ofF k n a = 0 := by simp [ofF, e1]
      have e3 : ofO k n a = 0 := by simp [ofO, e1]
      rw [e1, e2, e3]
      have H := Lib.hid hn
      clear hn e1 e2 e3
      go_enter Try.func40, Try.ntmps40
      go_wp2_with (go_at_call 58; refine (hasNumbers_any _ _ _ _ _ _).mono ?_; rintro e w1 ⟨rfl, hb⟩; rw [H.out]; have HB := Lib.hid hb; clear hb)
      go_ret3
      exact ⟨rfl, below_box HB.out⟩
    · by_cases h2 : (n : Int) * 2 ^ k ≤ a
      · have e1 : ofE k n a = 2 := by simp [ofE, hn]; omega
        have e2 : ofF k n a = 0 := by simp [ofF, e1]
        have e3 : ofO k n a = 0 := by simp [ofO, e1]
        rw [e1, e2, e3]
        have H := Lib.hid hn
        clear hn e1 e2 e3
        go_enter Try.func40, Try.ntmps40
        go_wp2_with (go_at_call 58; refine (hasNumbers_any _ _ _ _ _ _).mono ?_; rintro e w1 ⟨rfl, hb⟩; rw [H.out]; obtain ⟨bc, bf⟩ := bcell hb; have HB := Lib.hid hb; clear hb)
        go_ret3
        exact ⟨rfl, below_box HB.out⟩
      · go_enter Try.func40, Try.ntmps40
        go_wp2_with (go_at_call 58; refine (hasNumbers_any _ _ _ _ _ _).mono ?_; rintro e w1 ⟨rfl, hb⟩; rw [hn]; obtain ⟨bc, bf⟩ := bcell hb; have HB := Lib.hid hb; clear hb)
        have z1 : w.heap.size < w1.heap.size := by have := HB.out.size; simp at this; omega
        have c0 : w1.cell? ⟨w.heap.size, 0, none⟩ = some (.int .i64 k) := by rw [bc _ _ (by simp)]; go_simp
        have c1 : w1.cell? ⟨w.heap.size, 1, none⟩ = some V1 := by rw [bc _ _ (by simp)]; go_simp
        have c2 : w1.cell? ⟨w.heap.size, 2, none⟩ = some (.slice A n c) := by rw [bc _ _ (by simp)]; go_simp
        clear bc bf
        go_region_held3 (fun w' => w'.cell? ⟨w.heap.size, 0, none⟩ = some (.int .i64 k) ∧ w'.cell? ⟨w.heap.size, 1, none⟩ = some V1 ∧ w'.cell? ⟨w.heap.size, 2, none⟩ = some (.slice A n c))
          (first | exact ⟨c0, c1, c2⟩ | exact ⟨(b2.cell (p := ⟨_, 0, none⟩) z1).trans c0, (b2.cell (p := ⟨_, 1, none⟩) z1).trans c1, (b2.cell (p := ⟨_, 2, none⟩) z1).trans c2⟩)
          (first | (go_at_call 41; refine (size_yes k _ _ _ k1 k2).mono ?_; rintro e w2 ⟨rfl, b2⟩))
        have HB2 := Lib.hid b2
        clear b2 c0 c1 c2
        go_wp2
        go_ret3
        have e1 : ofE k n a = 0 := by simp [ofE, hn]; omega
        have e2 : ofF k n a = a / 2 ^ k := by simp [ofF, e1]
        have e3 : ofO k n a = a % 2 ^ k := by simp [ofO, e1]
        exact ⟨ret3 e2.symm ((and_low a k (by omega) a1 k2).trans e3.symm) e1.symm, below_next (below_box HB.out).drew (Nat.le_refl _) HB2.out⟩

theorem ret2 {a b a' b' : Int} (h1 : a = a') (h2 : b = b') : Ending.returned (.tuple #[.int .i64 a, .int .i64 b]) = .returned (.tuple #[.int .i64 a', .int .i64 b']) := by rw [h1, h2]
def baseE (s : Int) (n : Nat) (f : Int) : Int := if numB s n = false then 1 else if inB n f = false then 2 else 0
def baseV (s : Int) (n : Nat) (f : Int) : Int := if baseE s n f = 0 then f * 2 ^ s.toNat else 0

theorem inB_prod {n k : Nat} {f : Int} (h : inB n f = true) (hn : n ≤ 64) (hk : k ≤ 8) : 0 ≤ f * 2 ^ k ∧ f * 2 ^ k ≤ 16384 := by
  obtain ⟨h1, h2⟩ := inB_yes h
  obtain ⟨j, rfl⟩ := Int.eq_ofNat_of_zero_le h1
  exact prod_bd (by omega) hk

theorem base_any (s : Int) (V1 : Value) (A : Option Addr) (n c : Nat) (f : Int) (w : World) :
    Calls Try.prog 42 #[.agg #[.int .i64 s, V1, .slice A n c], .int .i64 f] w (Gives2 (baseV s n f) (baseE s n f) w) := by
  rcases hn : numB s n with _ | _
  · have e1 : baseE s n f = 1 := by simp [baseE, hn]
    have e2 : baseV s n f = 0 := by simp [baseV, e1]
    rw [e1, e2]
    have H := Lib.hid hn
    clear hn e1 e2
    go_enter Try.func42, Try.ntmps42
    go_wp2_with (go_at_call 58; refine (hasNumbers_any _ _ _ _ _ _).mono ?_; rintro e w1 ⟨rfl, hb⟩; rw [H.out]; have HB := Lib.hid hb; clear hb)
    go_ret2
    exact ⟨rfl, below_box HB.out⟩
  · obtain ⟨k, rfl, k1, k2, n1⟩ := numB_yes hn
    rcases hi : inB n f with _ | _
    · have e1 : baseE k n f = 2 := by simp [baseE, hn, hi]
      have e2 : baseV k n f = 0 := by simp [baseV, e1]
      rw [e1, e2]
      have H := Lib.hid hn
      have HI := Lib.hid hi
      clear hn hi e1 e2
      go_enter Try.func42, Try.ntmps42
      go_wp2_with (first
        | (go_at_call 58; refine (hasNumbers_any _ _ _ _ _ _).mono ?_; rintro e w1 ⟨rfl, hb⟩; rw [H.out]; obtain ⟨bc, bf⟩ := bcell hb; have HB := Lib.hid hb; clear hb)
        | (go_at_call 59; refine (isFrame_any _ _ _ _ _).mono ?_; rintro e w1 ⟨rfl, rfl⟩; rw [HI.out]))
      go_ret2
      exact ⟨rfl, below_box HB.out⟩
    · have e1 : baseE k n f = 0 := by simp [baseE, hn, hi]
      have e2 : baseV k n f = f * 2 ^ k := by simp [baseV, e1]
      rw [e1, e2]
      obtain ⟨q0, q1⟩ := inB_prod hi n1 k2
      have H := Lib.hid hn
      have HI := Lib.hid hi
      clear hn hi e1 e2
      go_enter Try.func42, Try.ntmps42
      go_wp2_with (first
        | (go_at_call 58; refine (hasNumbers_any _ _ _ _ _ _).mono ?_; rintro e w1 ⟨rfl, hb⟩; rw [H.out]; obtain ⟨bc, bf⟩ := bcell hb; have HB := Lib.hid hb; clear hb)
        | (go_at_call 59; refine (isFrame_any _ _ _ _ _).mono ?_; rintro e w1 ⟨rfl, rfl⟩; rw [HI.out]))
      go_ret2
      exact ⟨rfl, below_box HB.out⟩

def pairE (s : Int) (n : Nat) (f g : Int) : Int := if numB s n = false then 1 else if inB n f = false ∨ inB n g = false then 2 else 0
def pairV (s : Int) (n : Nat) (f g : Int) : Int := if pairE s n f g = 0 then f * n + g else 0

theorem pair_bd {n : Nat} {f g : Int} (h : inB n f = true) (h' : inB n g = true) (hn : n ≤ 64) : 0 ≤ f * n ∧ f * n ≤ 4096 ∧ 0 ≤ g ∧ g < 64 := by
  obtain ⟨h1, h2⟩ := inB_yes h
  obtain ⟨h3, h4⟩ := inB_yes h'
  have := Int.mul_nonneg h1 (show (0 : Int) ≤ n by omega)
  have := Int.mul_le_mul (show f ≤ 64 by omega) (show (n : Int) ≤ 64 by omega) (by omega) (by omega)
  omega

end Go.Proofs.Ytpbcpobbjoopnaa
