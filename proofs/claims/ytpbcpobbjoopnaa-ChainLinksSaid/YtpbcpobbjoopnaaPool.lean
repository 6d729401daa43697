/-
  Contracts of the references of layers 1, 4: Ceil, Free, Lift.
-/
import Derived.Test.YtpbcpobbjoopnaaRVal
import Derived.Test.YtpbcpobbjoopnaaChain
import Derived.OwnWalk
import Derived.Laws.AppendOwnNone
namespace Go.Proofs.Ytpbcpobbjoopnaa
open Go.RowKit
set_option linter.unusedVariables false

theorem int_info : (Try.prog.info? 3).map (fun i => (i.zero, i.size, i.bytes)) = some (some (.int .i64 0), 1, 8) := by kernel_rfl
theorem row_slice {w : World} {base : Nat} {t : TypeId} {size n : Nat} {v : Value} {xs : List Value} (h : w.ownsRow base t size v n xs) : ∃ A c, v = .slice A n c ∧ n ≤ c := by
  obtain ⟨hl, h⟩ := h
  rcases h with ⟨rfl, rfl⟩ | ⟨g, cap, cur, rfl, hb, hg, hn, hm, hs, ht⟩
  · exact ⟨none, 0, rfl, Nat.le_refl _⟩
  · exact ⟨_, _, rfl, hn⟩
theorem row_block {w : World} {base : Nat} {t : TypeId} {size n : Nat} {v : Value} {xs : List Value} (h : w.ownsRow base t size v n xs) : ∀ k, v.ownBlock = some k → base ≤ k := by
  intro k hk
  obtain ⟨hl, h⟩ := h
  rcases h with ⟨rfl, rfl⟩ | ⟨g, cap, cur, rfl, hb, _⟩
  · simp [Value.ownBlock] at hk
  · simp [Value.ownBlock] at hk
    omega

/-- How many frames of 2 ^ k words n words need. -/
def ceilV (n k : Nat) : Nat := (n + 2 ^ k - 1) / 2 ^ k
theorem ceilV_cast (n k : Nat) : ((n : Int) + 2 ^ k - 1) / 2 ^ k = (ceilV n k : Nat) := by
  have h : 1 ≤ 2 ^ k := Nat.one_le_two_pow
  have e : ((2 ^ k : Nat) : Int) = (2 : Int) ^ k := by simp
  unfold ceilV
  rw [Int.natCast_ediv, ← e]
  congr 1
  omega

theorem ceil_any (n k : Nat) (w : World) (hn : n ≤ 65536) (hk : k ≤ 8) :
    Calls Try.prog 75 #[.int .i64 n, .int .i64 k] w fun e w' => e = .returned (.int .i64 (ceilV n k : Nat)) ∧ w = w' := by
  have p0 := pw_pos k
  have p1 := pw_bd hk
  have HC := Lib.hid (ceilV_cast n k)
  go_enter Try.func75, Try.ntmps75
  go_wp2
  go_ret
  exact ⟨ret_i64 HC.out, rfl⟩

theorem one_news {w : World} {g : Nat} {v : Value} (h : w.cell? ⟨g, 0, none⟩ = some v) : ∀ (j : Nat) (u : Value), [v][j]? = some u → w.cell? ((⟨g, 0, none⟩ : Addr).add j) = some u := by
  intro j u hu
  rcases j with _ | j
  · simp at hu
    subst hu
    rw [add_at]
    exact h
  · simp at hu

def FreeRow (F : Nat → Fr) (w : World) (i v : Value) (n : Nat) (wr : World) : Prop :=
  ∃ t : Nat, t ≤ n ∧ i = .int .i64 t ∧ (∃ xs, wr.ownsRow w.heap.size 3 1 v (freeN F t) xs) ∧ Below w.heap.size w wr

def SliceOf (N : Nat) (w : World) (e : Ending) (w' : World) : Prop := ∃ A c, e = .returned (.slice A N c) ∧ Below w.heap.size w w'

set_option maxHeartbeats 1000000 in
theorem refFree_any (s : Int) (V1 : Value) (A' : Option Addr) (n c' : Nat) (F : Nat → Fr) (w : World) (hT : Tab w w.heap.size A' n c' F) (hn : n ≤ 64) :
    Calls Try.prog 71 #[.agg #[.int .i64 s, V1, .slice A' n c']] w (SliceOf (freeN F n) w) := by
  obtain ⟨i0, hi0, hz0, hz1, hz2⟩ := info_parts int_info
  have HT := Lib.hid hT
  have HB0 : Hid (Below w.heap.size w (w.alloc (.cells #[.int .i64 s, V1, .slice A' n c'] 25))) := (Below.refl _ _).alloc (Nat.le_refl _) _
  clear hT
  go_enter Try.func71, Try.ntmps71
  go_wp2
  go_loopw [3, 4, 5, 9] (fun v _ _ i wr => FreeRow F w i v n wr) (fun _ _ _ i _ => n - (intOf i).toNat)
  case atStart => exact ⟨0, by omega, rfl, ⟨[], World.ownsRow_nil _ _ _ _⟩, HB0.out⟩
  case round =>
    obtain ⟨t, ht, rfl, ⟨xs, hown⟩, hb⟩ := hrel
    have HB := Lib.hid hb
    have HO := Lib.hid hown
    have hfl := freeN_le (F := F) t
    clear hb hown
    by_cases hlt : t < n
    · have hlt2 : 0 ≤ (t : Int) ∧ (t : Int) < n := by omega
      have HTR : Hid (Tab wr w.heap.size A' n c' F) := HT.out.below HB.out
      obtain ⟨b, o, rfl, hbb⟩ := HTR.out.base_ (by omega)
      obtain ⟨_, c0, c1, c2⟩ := HTR.out.cells t hlt
      have bz : b < wr.heap.size := by have := HB.out.size; omega
      obtain ⟨x, hx⟩ : ∃ x, x = (F t).ow := ⟨_, rfl⟩
      rw [← hx] at c0
      by_cases hx0 : x = -1
      · have hf : freeN F (t + 1) = freeN F t + 1 := by simp only [freeN]; rw [← hx, if_pos hx0]
        subst hx0
        have HF := Lib.hid hf
        clear hx hf
        have hob := row_block HO.out
        go_wp2_with (at_builtin; refine wpList_append_own _ rfl _ _ 26 rfl w.heap.size 3 i0 (.int .i64 0) 1 8 Try.underlying26 hi0 hz0 hz1 hz2 rfl (by decide) _ (freeN F t) xs rfl ((HO.out.alloc _).alloc _) ⟨wr.heap.size + 1, 0, none⟩ 1 1 [.int .i64 t] rfl rfl ?c1 (by simp [Value.oneCell']) (by simp only [maxLen]; omega) (by omega) ?c5 ?_)
        case c1 => exact one_news (by go_simp)
        case c5 => have := HB.out.size; simp; omega
        intro v' w1 hown' hgrow _
        have HN : Hid (∃ xs, w1.ownsRow w.heap.size 3 1 v' (freeN F (t + 1)) xs) := ⟨_, by rw [HF.out]; exact hown'⟩
        have HBN : Hid (Below w.heap.size w w1) := ((HB.out.alloc HB.out.size _).alloc (by simp; have := HB.out.size; omega) _).grown hgrow (by simp; have := HB.out.size; omega) hob
        clear hown' hgrow hob
        go_wp2
        refine ⟨⟨t + 1, by omega, by go_num, HN.out, HBN.out⟩, by simp [intOf]; omega⟩
      · have hf : freeN F (t + 1) = freeN F t := by simp only [freeN]; rw [← hx, if_neg hx0]; rfl
        have hb1 : (x == -1) = false := by simpa using hx0
        have HN : Hid (∃ xs, (wr.alloc (.cells #[.int .i64 x, .int .i64 (F t).st, .int .i64 (F t).nx] 64)).ownsRow w.heap.size 3 1 u3 (freeN F (t + 1)) xs) := ⟨xs, by rw [hf]; exact HO.out.alloc _⟩
        have HBN : Hid (Below w.heap.size w (wr.alloc (.cells #[.int .i64 x, .int .i64 (F t).st, .int .i64 (F t).nx] 64))) := HB.out.alloc HB.out.size _
        clear hx hf hx0
        go_wp2
        refine ⟨⟨t + 1, by omega, by go_num, HN.out, HBN.out⟩, by simp [intOf]; omega⟩
    · obtain rfl : n = t := by omega
      have hlt2 : ¬ (n : Int) < n := by omega
      obtain ⟨A, c, rfl, _⟩ := row_slice HO.out
      go_wp2
      go_ret
      exact ⟨A, c, rfl, HB.out⟩

/-- The least free frame. -/
def Least (F : Nat → Fr) (n f : Nat) : Prop := f < n ∧ (F f).ow = -1 ∧ ∀ j, j < f → (F j).ow ≠ -1

/-- What Lift does where a frame is free: the least one is taken, and only the table has turned. -/
def Lifts (F : Nat → Fr) (n : Nat) (o s : Int) (g base c : Nat) (w : World) (e : Ending) (w' : World) : Prop :=
  ∃ f, Least F n f ∧ e = .returned (.int .i64 f) ∧ OwnT w' base (some ⟨g, 0, none⟩) n c (lift F f o s) ∧ w.grownBy w' (some g)

set_option maxHeartbeats 1000000 in
theorem lift_any (s : Int) (V1 : Value) (g n c base : Nat) (F : Nat → Fr) (ow bt : Int) (w : World) (hT : OwnT w base (some ⟨g, 0, none⟩) n c F) (hn : n ≤ 64) (hf : 0 < freeN F n) (ho : 0 ≤ ow ∧ ow ≤ 4294967295) (hb : 0 ≤ bt ∧ bt < 4) :
    Calls Try.prog 30 #[.agg #[.int .i64 s, V1, .slice (some ⟨g, 0, none⟩) n c], .int .i64 ow, .int .i64 bt] w (Lifts F n ow (bt * 4294967296 + ow) g base c w) := by
  have HT := Lib.hid hT
  obtain ⟨U, hU⟩ : ∃ U, U = w.alloc (.cells #[.int .i64 s, V1, .slice (some ⟨g, 0, none⟩) n c] 25) := ⟨_, rfl⟩
  have BU : Blk U w.heap.size 25 #[.int .i64 s, V1, .slice (some ⟨g, 0, none⟩) n c] := by rw [hU]; exact Blk.new _ _ _
  have HBU : Hid (Below w.heap.size w U) := by rw [hU]; exact (Below.refl _ _).alloc (Nat.le_refl _) _
  have HU := Lib.hid hU
  have HF0 := Lib.hid hf
  clear hT hf hU
  go_enter Try.func30, Try.ntmps30
  go_wp2
  rw [← HU.out]
  go_loopw [7, 8, 12] (fun _ _ i wr => ∃ t : Nat, t ≤ n ∧ i = .int .i64 t ∧ (∀ j, j < t → (F j).ow ≠ -1) ∧ Below U.heap.size U wr) (fun _ _ i _ => n - (intOf i).toNat)
  case atStart => exact ⟨0, by omega, rfl, fun j hj => by omega, Below.refl _ _⟩
  case round =>
    obtain ⟨t, ht, rfl, hno, hb⟩ := hrel
    have HNO := Lib.hid hno
    have BR := BU.next hb
    have p2 := BR.cell 2
    simp at p2
    have wz : w.heap.size < wr.heap.size := BR.lt
    have HB : Hid (Below w.heap.size w wr) := below_next HBU.out (Nat.le_refl _) hb
    have HB2 := Lib.hid hb
    clear hno hb BR
    by_cases hlt : t < n
    · have hlt2 : 0 ≤ (t : Int) ∧ (t : Int) < n := by omega
      have HTR : Hid (OwnT wr base (some ⟨g, 0, none⟩) n c F) := HT.out.below HB.out
      obtain ⟨g1, g2, c0, c1, c2, f0, f1, f2, hnew, _⟩ := HTR.out.spotAt t hlt ⟨ow, bt * 4294967296 + ow, -1⟩
      have HNEW := Lib.hid hnew
      clear hnew
      obtain ⟨x, hx⟩ : ∃ x, x = (F t).ow := ⟨_, rfl⟩
      rw [← hx] at c0
      by_cases hx0 : x = -1
      · subst hx0
        have HX := Lib.hid hx
        have HL : Hid (OwnT (wr.alloc (.cells #[.int .i64 (-1), .int .i64 (F t).st, .int .i64 (F t).nx] 64)) base (some ⟨g, 0, none⟩) n c F) := HTR.out.below ((Below.refl _ _).alloc (Nat.le_refl _) _)
        have sm : 0 ≤ bt * 4294967296 ∧ bt * 4294967296 ≤ 12884901888 := by omega
        clear hx
        go_wp2
        go_ret
        exact ⟨t, ⟨hlt, HX.out.symm, HNO.out⟩, rfl, HNEW.out.below ((Below.refl _ _).alloc (Nat.le_refl _) _), turn_alloc (turn_set3 (turn_below HB.out) _ _ _ _ _ _) _⟩
      · have hb1 : (x == -1) = false := by simpa using hx0
        have HX : Hid ((F t).ow ≠ -1) := by rw [← hx]; exact hx0
        have HBN : Hid (Below U.heap.size U (wr.alloc (.cells #[.int .i64 x, .int .i64 (F t).st, .int .i64 (F t).nx] 64))) := HB2.out.alloc HB2.out.size _
        clear hx hx0
        go_wp2
        refine ⟨⟨t + 1, by omega, by go_num, fun j hj => ?_, HBN.out⟩, by simp [intOf]; omega⟩
        rcases (show j < t ∨ j = t by omega) with h | rfl
        · exact HNO.out j h
        · exact HX.out
    · exfalso
      have := freeN_none n (fun j hj => HNO.out j (by omega))
      have := HF0.out
      omega
end Go.Proofs.Ytpbcpobbjoopnaa
