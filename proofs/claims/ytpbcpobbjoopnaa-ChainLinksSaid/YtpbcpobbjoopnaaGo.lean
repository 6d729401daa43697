/-
  Contract of the reference of layer 5: Go, along a chain.
-/
import Derived.Test.YtpbcpobbjoopnaaPool
namespace Go.Proofs.Ytpbcpobbjoopnaa
open Go.RowKit
set_option linter.unusedVariables false

theorem addrP_split {F : Nat → Fr} {k y p : Nat} {first : Int} (h : iter F (p / 2 ^ k) first = y) :
    addrP F k first p = ((y * 2 ^ k + p % 2 ^ k : Nat) : Int) ∧ addrP F k first p / 2 ^ k = y ∧ addrP F k first p % 2 ^ k = ((p % 2 ^ k : Nat) : Int) := by
  have hz : 0 < 2 ^ k := Nat.two_pow_pos k
  have hr : p % 2 ^ k < 2 ^ k := Nat.mod_lt _ hz
  have e : addrP F k first p = ((y * 2 ^ k + p % 2 ^ k : Nat) : Int) := by
    unfold addrP
    rw [h]
    simp
  have ez : (2 : Int) ^ k = ((2 ^ k : Nat) : Int) := by simp
  refine ⟨e, ?_, ?_⟩
  · rw [e, ez, ← Int.natCast_ediv, Nat.add_comm, Nat.add_mul_div_right _ _ hz, Nat.div_eq_of_lt hr, Nat.zero_add]
  · rw [e, ez, ← Int.natCast_emod, Nat.add_comm, Nat.add_mul_mod_self_right, Nat.mod_eq_of_lt hr]

theorem addrP_at {F : Nat → Fr} {k q r P y : Nat} {first : Int} (hP : P = q * 2 ^ k + r) (hr : r < 2 ^ k) (h : iter F q first = y) : addrP F k first P = (y : Int) * 2 ^ k + r := by
  have hz : 0 < 2 ^ k := Nat.two_pow_pos k
  have h1 : P / 2 ^ k = q := by rw [hP, Nat.add_comm, Nat.add_mul_div_right _ _ hz, Nat.div_eq_of_lt hr, Nat.zero_add]
  have h2 : P % 2 ^ k = r := by rw [hP, Nat.add_comm, Nat.add_mul_mod_self_right, Nat.mod_eq_of_lt hr]
  unfold addrP
  rw [h1, h2, h]

/-- What holds on the way along a chain to its place P. -/
def GoAt (F : Nat → Fr) (n : Nat) (first : Int) (m z P : Nat) (kk f at_ : Value) : Prop :=
  ∃ q y r x : Nat, f = .int .i64 y ∧ iter F q first = y ∧ y < n ∧ at_ = .int .i64 r ∧ r < z ∧ kk = .int .i64 x ∧ q * z + r + x = P ∧ q < m

set_option maxHeartbeats 2000000 in
theorem go_pos (k : Nat) (A A' : Option Addr) (nw c n c' : Nat) (F : Nat → Fr) (first last o st : Int) (m p j : Nat) (w : World) (hT : Tab w w.heap.size A' n c' F) (hn : n ≤ 64) (hv : FV F n) (h1 : 3 ≤ k) (h2 : k ≤ 8) (hw : nw = n * 2 ^ k)
    (hc : ChainP F n first last m o st) (hs : stB st o = true) (hp : p + j < m * 2 ^ k) :
    Calls Try.prog 43 #[.agg #[.int .i64 k, .slice A nw c, .slice A' n c'], .int .i64 (addrP F k first p), .int .i64 j] w (Gives2 (addrP F k first (p + j)) 0 w) := by
  obtain ⟨z, hz⟩ : ∃ z, z = 2 ^ k := ⟨_, rfl⟩
  have z0 : 0 < z := by rw [hz]; exact Nat.two_pow_pos k
  have z1 : z ≤ 256 := by
    have := pw_bd h2
    have e : ((2 ^ k : Nat) : Int) = (2 : Int) ^ k := by simp
    omega
  have ez : (2 : Int) ^ k = z := by rw [hz]; simp
  have hqm : p / 2 ^ k < m := Nat.div_lt_of_lt_mul (by rw [Nat.mul_comm]; omega)
  obtain ⟨y, hy, hyn, hyo, _⟩ := hc.at_ hv hs hqm
  obtain ⟨e1, e2, e3⟩ := addrP_split hy
  have hmod : p % 2 ^ k < z := by rw [hz]; exact Nat.mod_lt _ (Nat.two_pow_pos k)
  have hyz : y * 2 ^ k + 2 ^ k ≤ n * 2 ^ k := by
    have := Nat.mul_le_mul_right (2 ^ k) (show y + 1 ≤ n by omega)
    rw [Nat.add_mul, Nat.one_mul] at this
    exact this
  have hnw := prod_le hn h2
  have hdm : p / 2 ^ k * z + p % 2 ^ k = p := by rw [hz]; exact Nat.div_add_mod' p (2 ^ k)
  obtain ⟨a, ha⟩ : ∃ a, a = addrP F k first p := ⟨_, rfl⟩
  rw [← ha] at e1 e2 e3 ⊢
  have a0 : 0 ≤ a := by omega
  have a1 : a < nw := by omega
  have o0 := (stB_yes hs).1
  have hlow := and_low' a k a0 (by omega) h2
  rw [e3] at hlow
  obtain ⟨r0, hr0⟩ : ∃ r, r = p % 2 ^ k := ⟨_, rfl⟩
  obtain ⟨q0, hq0⟩ : ∃ q, q = p / 2 ^ k := ⟨_, rfl⟩
  rw [← hr0] at hlow hmod hdm
  rw [← hq0] at hqm hy hdm
  have HLOW := Lib.hid hlow
  have HDIV := Lib.hid e2
  have HV := Lib.hid hv
  have HC := Lib.hid hc
  have HS := Lib.hid hs
  have HY := Lib.hid hy
  have HZ := Lib.hid hz
  have HEZ := Lib.hid ez
  have pz : 0 < (2 : Int) ^ k := pw_pos k
  have pz2 : (2 : Int) ^ k ≤ 256 := pw_bd h2
  have HT := Lib.hid hT
  obtain ⟨b, oo, rfl, hbb⟩ := hT.base_ (by omega)
  obtain ⟨_, c0, _, _⟩ := hT.cells y hyn
  rw [hyo] at c0
  have hneg : (o == -1) = false := by simp; omega
  have yi : 0 ≤ (y : Int) ∧ (y : Int) < n := by omega
  obtain ⟨U, hU⟩ : ∃ U, U = w.alloc (.cells #[.int .i64 k, .slice A nw c, .slice (some ⟨b, oo, none⟩) n c'] 25) := ⟨_, rfl⟩
  have BU : Blk U w.heap.size 25 #[.int .i64 k, .slice A nw c, .slice (some ⟨b, oo, none⟩) n c'] := by rw [hU]; exact Blk.new _ _ _
  have HBU : Hid (Below w.heap.size w U) := by rw [hU]; exact (Below.refl _ _).alloc (Nat.le_refl _) _
  have HU := Lib.hid hU
  have d0 : U.cell? ⟨b, oo + y * 3, none⟩ = some (.int .i64 o) := (HBU.out.cell (p := ⟨b, _, none⟩) hbb).trans c0
  have p0 := BU.cell 0
  have p1 := BU.cell 1
  have p2 := BU.cell 2
  simp at p0 p1 p2
  clear hT hv hc hs hy hz ez hU e1 e2 e3 ha hlow hr0 hq0 hw c0 hyz hyo
  go_enter Try.func43, Try.ntmps43
  go_wp2
  rw [← HU.out]
  go_quiet (fail)
  rw [HLOW.out, HDIV.out]
  go_wp2
  obtain ⟨V, hV⟩ : ∃ V, V = U.drewN nq := ⟨_, rfl⟩
  have BV : Blk V w.heap.size 25 #[.int .i64 k, .slice A nw c, .slice (some ⟨b, oo, none⟩) n c'] := by rw [hV]; exact BU
  have HBV : Hid (Below w.heap.size w V) := by rw [hV]; exact HBU.out.trans ⟨rfl, rfl, rfl, Nat.le_refl _, fun _ _ => rfl⟩
  rw [← hV]
  have p0 := BV.cell 0
  have p2 := BV.cell 2
  simp at p0 p2
  have HTV : Hid (Tab V w.heap.size (some ⟨b, oo, none⟩) n c' F) := HT.out.below HBV.out
  have ez := HEZ.out
  clear hV BU p1
  go_loop [2, 8, 9] (fun kk f at_ => GoAt F n first m z (p + j) kk f at_) (fun kk _ _ => (intOf kk).toNat)
  case atStart => exact ⟨q0, y, r0, j, rfl, HY.out, hyn, rfl, hmod, rfl, by omega, hqm⟩
  case round =>
    obtain ⟨q, y', r, x, rfl, hy', hyn', rfl, hr, rfl, hP, hqm'⟩ := hrel
    have HP := Lib.hid hP
    have HY' := Lib.hid hy'
    have hxb : x ≤ 1048576 := by
      have h3 : m ≤ n + 1 := by
        rcases Nat.lt_or_ge (n + 1) m with h | h
        · exfalso
          obtain ⟨q', hq', _⟩ := HC.out.at_ HV.out HS.out h
          rcases HC.out with ⟨hm0, _⟩ | ⟨_, pp, l, e1, hpp, _⟩
          · omega
          · rw [e1] at hq'
            have := HV.out.2.2 pp hpp
            omega
        · exact h
      have h4 : m * 2 ^ k ≤ 65 * 256 := Nat.mul_le_mul (by omega) (by rw [← HZ.out]; exact z1)
      omega
    clear hy'
    by_cases hx : z ≤ r + x
    · have hx2 : (z : Int) - r ≤ x := by omega
      have hq1 : q + 1 < m := by
        have e1 : (q + 1) * z = q * z + z := by rw [Nat.add_mul, Nat.one_mul]
        have e2 : m * 2 ^ k = m * z := by rw [HZ.out]
        rcases Nat.lt_or_ge (q + 1) m with h | h
        · exact h
        · have e3 := Nat.mul_le_mul_right z h
          omega
      obtain ⟨y2, hy2, hyn2, _, _⟩ := HC.out.at_ HV.out HS.out hq1
      have hnx : (F y').nx = y2 := by
        have e1 : iter F (q + 1) first = (F y').nx := by rw [iter_succ, HY'.out, if_neg (by omega), Int.toNat_natCast]
        rw [← e1]; exact hy2
      obtain ⟨_, _, _, c2⟩ := HTV.out.cells y' hyn'
      rw [hnx] at c2
      have yi' : 0 ≤ (y' : Int) ∧ (y' : Int) < n := by omega
      have hneg2 : ((y2 : Int) == -1) = false := by simp
      have HY2 := Lib.hid hy2
      have HP2 : Hid ((q + 1) * z + 0 + (x - (z - r)) = p + j) := by
        have e1 : (q + 1) * z = q * z + z := by rw [Nat.add_mul, Nat.one_mul]
        show (q + 1) * z + 0 + (x - (z - r)) = p + j
        have := HP.out
        omega
      clear hnx hy2 hP
      go_wp2
      refine ⟨⟨q + 1, y2, 0, x - (z - r), rfl, HY2.out, hyn2, rfl, z0, ?_, HP2.out, hq1⟩, by simp [intOf]; omega⟩
      exact congrArg (Value.int IntKind.i64) (by omega)
    · have hx2 : ¬ (z : Int) - r ≤ x := by omega
      have hres : addrP F k first (p + j) = (y' : Int) * 2 ^ k + ((r + x : Nat) : Int) := addrP_at (q := q) (by rw [← HZ.out]; have := HP.out; omega) (by rw [← HZ.out]; omega) HY'.out
      have HRES := Lib.hid hres
      have yz : 0 ≤ (y' : Int) * 2 ^ k ∧ (y' : Int) * 2 ^ k ≤ 16384 := prod_bd (by omega) h2
      rw [ez] at yz
      clear hres hP
      go_wp2
      go_ret2
      refine ⟨ret2 ?_ rfl, HBV.out⟩
      rw [HRES.out, ez]
      omega
end Go.Proofs.Ytpbcpobbjoopnaa
