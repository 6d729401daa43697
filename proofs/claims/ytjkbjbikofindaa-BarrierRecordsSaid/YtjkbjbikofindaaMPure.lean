/-
  Merged: Pure, Chain, Path.
-/
namespace Go.Proofs.Ytjkbjbikofindaa
set_option maxRecDepth 100000

/-- An entry of the frame table. -/
structure Fr where
  ow : Int
  st : Int
  nx : Int
def frFree : Fr := ⟨-1, -1, -1⟩
def frZero : Fr := ⟨0, 0, 0⟩

/-- Whether an owner and a stamp belong together. -/
def stB (st ow : Int) : Bool := decide (0 ≤ ow ∧ ow ≤ 4294967295 ∧ (st = ow ∨ st = ow + 4294967296 ∨ st = ow + 8589934592 ∨ st = ow + 12884901888))
theorem stB_yes {st ow : Int} (h : stB st ow = true) : 0 ≤ ow ∧ ow ≤ 4294967295 ∧ (st = ow ∨ st = ow + 4294967296 ∨ st = ow + 8589934592 ∨ st = ow + 12884901888) := of_decide_eq_true h
theorem stB_of {st ow : Int} (h : 0 ≤ ow ∧ ow ≤ 4294967295 ∧ (st = ow ∨ st = ow + 4294967296 ∨ st = ow + 8589934592 ∨ st = ow + 12884901888)) : true = stB st ow := (decide_eq_true h).symm
theorem stB_not {st ow : Int} (h : ¬ (0 ≤ ow ∧ ow ≤ 4294967295 ∧ (st = ow ∨ st = ow + 4294967296 ∨ st = ow + 8589934592 ∨ st = ow + 12884901888))) : false = stB st ow := (decide_eq_false h).symm

/-- Whether a shift is permitted. -/
def shB (s : Int) : Bool := decide (3 ≤ s) && decide (s ≤ 8)
theorem shB_yes {s : Int} (h : shB s = true) : 3 ≤ s ∧ s ≤ 8 := by simpa [shB] using h

def nfB (n : Int) : Bool := decide (2 ≤ n) && decide (n ≤ 64)
def inB (n : Nat) (f : Int) : Bool := decide (0 ≤ f) && decide (f < n)
theorem inB_yes {n : Nat} {f : Int} (h : inB n f = true) : 0 ≤ f ∧ f < n := by simpa [inB] using h
/-- Whether two entries are one. -/
def frB (f g : Fr) : Bool := (f.ow == g.ow) && ((f.st == g.st) && (f.nx == g.nx))
theorem frB_yes {f g : Fr} (h : frB f g = true) : f = g := by
  obtain ⟨a, b, c⟩ := f
  obtain ⟨a', b', c'⟩ := g
  simp [frB] at h
  obtain ⟨rfl, rfl, rfl⟩ := h
  rfl
theorem frB_self (f : Fr) : frB f f = true := by simp [frB]

/-- Whether the words of frame f are 0. -/
def zeroB (wd : Nat → Int) (k f : Nat) : Bool := decide (∀ a, a < 2 ^ k → wd (f * 2 ^ k + a) = 0)

/-- Whether frame f is owned, and its link is well. -/
def ownB (n : Nat) (F : Nat → Fr) (f : Nat) : Bool := stB (F f).st (F f).ow && (decide ((F f).nx = -1) || (inB n (F f).nx && decide ((F f).nx ≠ f) && decide ((F (F f).nx.toNat).ow = (F f).ow) && decide ((F (F f).nx.toNat).st = (F f).st)))


/-- A Nodup list of numbers below n has at most n elements, and all of them if it has n. -/
theorem nodup_le : ∀ (n : Nat) (l : List Nat), l.Nodup → (∀ x ∈ l, x < n) → l.length ≤ n ∧ (l.length = n → ∀ x, x < n → x ∈ l)
  | 0, l, _, h => by
    rcases l with _ | ⟨a, l⟩
    · exact ⟨Nat.le_refl _, fun _ x hx => absurd hx (by omega)⟩
    · exact absurd (h a (by simp)) (by omega)
  | n + 1, l, hd, h => by
    by_cases hm : n ∈ l
    · have h1 : (l.erase n).Nodup := hd.erase n
      have h2 : ∀ x ∈ l.erase n, x < n := by
        intro x hx
        have hx' := (hd.mem_erase_iff.1 hx)
        have := h x hx'.2
        omega
      obtain ⟨i1, i2⟩ := nodup_le n (l.erase n) h1 h2
      have hl : (l.erase n).length = l.length - 1 := List.length_erase_of_mem hm
      have hp : 0 < l.length := List.length_pos_of_mem hm
      refine ⟨by omega, fun he x hx => ?_⟩
      by_cases e : x = n
      · subst e; exact hm
      · exact List.mem_of_mem_erase (i2 (by omega) x (by omega))
    · have h2 : ∀ x ∈ l, x < n := by
        intro x hx
        have h3 := h x hx
        have : x ≠ n := fun e => hm (e ▸ hx)
        omega
      obtain ⟨i1, i2⟩ := nodup_le n l hd h2
      exact ⟨by omega, fun he => by omega⟩

section
variable (F : Nat → Fr)

/-- The frame that stands i links behind f; -1 behind the last one. -/
def iter : Nat → Int → Int
  | 0, f => f
  | i + 1, f => if f = -1 then -1 else iter i (F f.toNat).nx

theorem iter_none : ∀ i, iter F i (-1) = -1
  | 0 => rfl
  | _ + 1 => by simp [iter]
theorem iter_add : ∀ (i j : Nat) (f : Int), iter F (i + j) f = iter F j (iter F i f)
  | 0, j, f => by simp [iter]
  | i + 1, j, f => by
    rw [show i + 1 + j = (i + j) + 1 by omega]
    by_cases h : f = -1
    · subst h; rw [iter_none, iter_none, iter_none]
    · simp only [iter, if_neg h]
      exact iter_add i j _
theorem iter_succ (i : Nat) (f : Int) : iter F (i + 1) f = if iter F i f = -1 then -1 else (F (iter F i f).toNat).nx := by
  rw [iter_add]
  simp only [iter]
theorem iter_stay {i j : Nat} {f : Int} (h : iter F i f = -1) (hij : i ≤ j) : iter F j f = -1 := by
  obtain ⟨d, rfl⟩ := Nat.le.dest hij
  rw [iter_add, h, iter_none]

/-- All links of n frames stay among them. -/
def Inside (n : Nat) : Prop := ∀ f, f < n → (F f).nx = -1 ∨ (0 ≤ (F f).nx ∧ (F f).nx < n)
/-- No frame is the next one of two. -/
def Single (n : Nat) : Prop := ∀ f g, f < n → g < n → (F f).nx = (F g).nx → (F f).nx ≠ -1 → f = g
/-- Every chain ends. -/
def Ends (n : Nat) : Prop := ∀ f : Nat, f < n → iter F (n + 1) f = -1
/-- Whether one of the first t frames has the next frame g. -/
def fol (t : Nat) (g : Int) : Bool := (List.range t).any fun f => (F f).nx == g
theorem fol_iff (t : Nat) (g : Int) : fol F t g = true ↔ ∃ f, f < t ∧ (F f).nx = g := by
  simp [fol]
theorem fol_succ (t : Nat) (g : Int) : fol F (t + 1) g = (fol F t g || ((F t).nx == g)) := by
  simp [fol, List.range_succ]
theorem fol_zero (g : Int) : fol F 0 g = false := rfl

variable {F} {n : Nat}

theorem iter_in (hi : Inside F n) {f : Nat} (hf : f < n) (i : Nat) : iter F i f = -1 ∨ (0 ≤ iter F i f ∧ iter F i f < n) := by
  induction i with
  | zero => right; simp only [iter]; omega
  | succ i ih =>
    rw [iter_succ]
    rcases ih with h | ⟨h1, h2⟩
    · left; rw [if_pos h]
    · rw [if_neg (by omega)]
      exact hi _ (by omega)

/-- Two places on chains that are one frame: the earlier one's beginning lies on the other chain. -/
theorem iter_back (hi : Inside F n) (hs : Single F n) {f g : Nat} (hf : f < n) (hg : g < n) : ∀ (i j : Nat), i ≤ j → iter F i f = iter F j g → iter F i f ≠ -1 → (f : Int) = iter F (j - i) g
  | 0, j, _, h, _ => by simpa [iter] using h
  | i + 1, j + 1, hij, h, hne => by
    rw [iter_succ] at h hne
    rw [iter_succ] at h
    have a1 := iter_in hi hf i
    have a2 := iter_in hi hg j
    by_cases e1 : iter F i f = -1
    · rw [if_pos e1] at hne
      exact absurd rfl hne
    · rw [if_neg e1] at h hne
      by_cases e2 : iter F j g = -1
      · rw [if_pos e2] at h
        exact absurd h hne
      · rw [if_neg e2] at h
        have e3 := hs (iter F i f).toNat (iter F j g).toNat (by omega) (by omega) h hne
        have e4 : iter F i f = iter F j g := by omega
        have := iter_back hi hs hf hg i j (by omega) e4 e1
        rw [this, show j + 1 - (i + 1) = j - i by omega]

/-- A frame that nothing leads to stands at the beginning of its chain alone. -/
theorem start_only {s g j : Nat} (hi : Inside F n) (hg : g < n) (hn : fol F n s = false) (h : (s : Int) = iter F j g) : j = 0 := by
  rcases j with _ | j
  · rfl
  · rw [iter_succ] at h
    have a := iter_in hi hg j
    by_cases e : iter F j g = -1
    · rw [if_pos e] at h; omega
    · rw [if_neg e] at h
      have : fol F n s = true := (fol_iff F n s).2 ⟨(iter F j g).toNat, by omega, h.symm⟩
      rw [hn] at this
      cases this

theorem start_same (hi : Inside F n) (hs : Single F n) {s s' : Nat} (h1 : s < n) (h2 : s' < n) (n1 : fol F n s = false) (n2 : fol F n s' = false) {i j : Nat} (h : iter F i s = iter F j s') (hne : iter F i s ≠ -1) : i = j ∧ s = s' := by
  rcases Nat.le_total i j with hij | hij
  · have h3 := iter_back hi hs h1 h2 i j hij h hne
    have h4 := start_only hi h2 n1 h3
    rw [h4] at h3
    simp only [iter] at h3
    exact ⟨by omega, by omega⟩
  · have h3 := iter_back hi hs h2 h1 j i hij h.symm (by rw [← h]; exact hne)
    have h4 := start_only hi h1 n2 h3
    rw [h4] at h3
    simp only [iter] at h3
    exact ⟨by omega, by omega⟩

/-- The frames of the chain from s, as a list of at most m. -/
def path (F : Nat → Fr) : Nat → Int → List Nat
  | 0, _ => []
  | m + 1, f => if f = -1 then [] else f.toNat :: path F m (F f.toNat).nx
theorem path_none (m : Nat) : path F m (-1) = [] := by cases m <;> simp [path]
theorem mem_path : ∀ (m : Nat) (f : Int), 0 ≤ f ∨ f = -1 → (∀ i, iter F i f = -1 ∨ 0 ≤ iter F i f) → ∀ x, x ∈ path F m f ↔ ∃ i, i < m ∧ iter F i f = (x : Int)
  | 0, f, _, _, x => by simp [path]
  | m + 1, f, h0, hr, x => by
    by_cases e : f = -1
    · subst e
      rw [path_none]
      simp only [List.not_mem_nil, false_iff]
      rintro ⟨i, _, h⟩
      rw [iter_none] at h
      omega
    · have f0 : 0 ≤ f := by omega
      have hr1 := hr 1
      simp only [iter, if_neg e] at hr1
      have hr' : ∀ i, iter F i (F f.toNat).nx = -1 ∨ 0 ≤ iter F i (F f.toNat).nx := by
        intro i
        have := hr (i + 1)
        simpa only [iter, if_neg e] using this
      have ih := mem_path m (F f.toNat).nx (by omega) hr' x
      simp only [path, if_neg e, List.mem_cons, ih]
      constructor
      · rintro (h | ⟨i, hi, h⟩)
        · exact ⟨0, by omega, by simp only [iter]; omega⟩
        · exact ⟨i + 1, by omega, by simpa only [iter, if_neg e] using h⟩
      · rintro ⟨i, hi, h⟩
        rcases i with _ | i
        · left; simp only [iter] at h; omega
        · right; exact ⟨i, by omega, by simpa only [iter, if_neg e] using h⟩

/-- A chain that nothing leads to ends after n links. -/
theorem start_ends (hi : Inside F n) (hs : Single F n) {s : Nat} (h1 : s < n) (n1 : fol F n s = false) : iter F n s = -1 := by
  rcases iter_in hi h1 n with h | h
  · exact h
  · exfalso
    have hne : ∀ i, i ≤ n → iter F i s ≠ -1 := fun i hin e => by have := iter_stay F e hin; omega
    have hd : ((List.range (n + 1)).map fun i => (iter F i s).toNat).Nodup := by
      rw [List.nodup_iff_pairwise_ne, List.pairwise_map]
      refine (List.nodup_iff_pairwise_ne.1 List.nodup_range).imp_of_mem ?_
      intro i j ha hb hij e
      simp at ha hb
      have a1 := iter_in hi h1 i
      have a2 := iter_in hi h1 j
      have b1 := hne i (by omega)
      have b2 := hne j (by omega)
      exact hij (start_same hi hs h1 h1 n1 n1 (i := i) (j := j) (by omega) b1).1
    have := (nodup_le n _ hd (by
      intro x hx
      simp only [List.mem_map, List.mem_range] at hx
      obtain ⟨i, hin, rfl⟩ := hx
      have a1 := iter_in hi h1 i
      have b1 := hne i (by omega)
      omega)).1
    simp at this
    omega

theorem path_length : ∀ (m : Nat) (f : Int) (i : Nat), i ≤ m → iter F i f = -1 → (∀ j, j < i → iter F j f ≠ -1) → (path F m f).length = i
  | 0, f, i, h, _, _ => by simp only [path, List.length_nil]; omega
  | m + 1, f, 0, _, h, _ => by simp only [iter] at h; subst h; rw [path_none]; rfl
  | m + 1, f, i + 1, h, h1, h2 => by
    have e : f ≠ -1 := by simpa only [iter] using h2 0 (by omega)
    simp only [iter, if_neg e] at h1
    simp only [path, if_neg e, List.length_cons]
    rw [path_length m _ i (by omega) h1 (fun j hj => by simpa only [iter, if_neg e] using h2 (j + 1) (by omega))]

theorem path_nodup (hi : Inside F n) (hs : Single F n) {s : Nat} (h1 : s < n) (n1 : fol F n s = false) : ∀ (m i : Nat), (path F m (iter F i s)).Nodup
  | 0, _ => by simp [path]
  | m + 1, i => by
    by_cases e : iter F i s = -1
    · rw [e, path_none]; simp
    · have a := iter_in hi h1 i
      simp only [path, if_neg e]
      have e2 : (F (iter F i s).toNat).nx = iter F (i + 1) s := by rw [iter_succ, if_neg e]
      rw [e2, List.nodup_cons]
      refine ⟨?_, path_nodup hi hs h1 n1 m (i + 1)⟩
      rw [mem_path m _ (by have := iter_in hi h1 (i + 1); omega) (fun j => by rw [← iter_add]; have := iter_in hi h1 (i + 1 + j); omega)]
      rintro ⟨j, _, hj⟩
      rw [← iter_add] at hj
      have := (start_same hi hs h1 h1 n1 n1 (i := i + 1 + j) (j := i) (by omega) (by omega)).1
      omega

/-- All frames on chains that begin with one of the first t frames. -/
def cov (F : Nat → Fr) (n t : Nat) : List Nat := (List.range t).flatMap fun (s : Nat) => if fol F n s then [] else path F n s
theorem cov_zero : cov F n 0 = [] := rfl
theorem cov_succ (t : Nat) : cov F n (t + 1) = cov F n t ++ (if fol F n t then [] else path F n t) := by
  simp [cov, List.range_succ]
theorem cov_skip {t : Nat} (h : fol F n t = true) : (cov F n (t + 1)).length = (cov F n t).length := by
  rw [cov_succ, h]; simp
theorem cov_add {t i : Nat} (h : fol F n t = false) (hin : i ≤ n) (h1 : iter F i t = -1) (h2 : ∀ j, j < i → iter F j t ≠ -1) : (cov F n (t + 1)).length = (cov F n t).length + i := by
  rw [cov_succ, h]
  simp only [Bool.false_eq_true, if_false, List.length_append]
  rw [path_length n t i hin h1 h2]

theorem mem_cov (hi : Inside F n) {t : Nat} (ht : t ≤ n) (x : Nat) : x ∈ cov F n t ↔ ∃ s i, s < t ∧ fol F n s = false ∧ i < n ∧ iter F i s = (x : Int) := by
  simp only [cov, List.mem_flatMap, List.mem_range]
  constructor
  · rintro ⟨s, hs, hx⟩
    cases hf : fol F n s
    · rw [hf] at hx
      simp only [Bool.false_eq_true, if_false] at hx
      obtain ⟨i, h1, h2⟩ := (mem_path n s (by omega) (fun i => by have := iter_in hi (show s < n by omega) i; omega) x).1 hx
      exact ⟨s, i, hs, hf, h1, h2⟩
    · rw [hf] at hx
      simp at hx
  · rintro ⟨s, i, hs, hf, h1, h2⟩
    refine ⟨s, hs, ?_⟩
    rw [hf]
    simp only [Bool.false_eq_true, if_false]
    exact (mem_path n s (by omega) (fun i => by have := iter_in hi (show s < n by omega) i; omega) x).2 ⟨i, h1, h2⟩

theorem cov_nodup (hi : Inside F n) (hs : Single F n) : ∀ t, t ≤ n → (cov F n t).Nodup
  | 0, _ => by rw [cov_zero]; simp
  | t + 1, ht => by
    have ih := cov_nodup hi hs t (by omega)
    rw [cov_succ]
    cases hf : fol F n t
    · simp only [Bool.false_eq_true, if_false]
      rw [List.nodup_append]
      refine ⟨ih, ?_, ?_⟩
      · have := path_nodup hi hs (show t < n by omega) hf n 0
        simpa only [iter] using this
      · intro a ha b hb e
        subst e
        obtain ⟨s, i, h1, h2, h3, h4⟩ := (mem_cov hi (by omega) a).1 ha
        obtain ⟨j, h5, h6⟩ := (mem_path n t (by omega) (fun i => by have := iter_in hi (show t < n by omega) i; omega) a).1 hb
        have := (start_same hi hs (show s < n by omega) (show t < n by omega) h2 hf (i := i) (j := j) (by omega) (by omega)).2
        omega
    · simp [ih]

theorem subset_le : ∀ (l m : List Nat), l.Nodup → (∀ x ∈ l, x ∈ m) → l.length ≤ m.length
  | [], _, _, _ => by simp
  | a :: l, m, hd, h => by
    rw [List.nodup_cons] at hd
    have ha := h a (by simp)
    have := subset_le l (m.erase a) hd.2 (fun x hx => (List.mem_erase_of_ne (fun e => hd.1 (by rw [← e]; exact hx))).2 (h x (by simp [hx])))
    rw [List.length_erase_of_mem ha] at this
    have := List.length_pos_of_mem ha
    simp
    omega

theorem ends_all (hi : Inside F n) (hs : Single F n) (he : Ends F n) : ∀ (d j : Nat), j + d = n + 1 → ∀ f, f < n → iter F j f ≠ -1 → f ∈ cov F n n
  | 0, j, hj, f, hf, h => absurd (by rw [show j = n + 1 by omega]; exact he f hf) h
  | d + 1, j, hj, f, hf, h => by
    rw [mem_cov hi (Nat.le_refl n)]
    cases hfo : fol F n f
    · exact ⟨f, 0, hf, hfo, by omega, rfl⟩
    · obtain ⟨p, hp, hx⟩ := (fol_iff F n f).1 hfo
      have h2 : iter F (j + 1) p ≠ -1 := by
        rw [show j + 1 = 1 + j by omega, iter_add]
        simp only [iter]
        rw [if_neg (by omega), Int.toNat_natCast, hx]
        exact h
      obtain ⟨s, i, a1, a2, a3, a4⟩ := (mem_cov hi (Nat.le_refl n) p).1 (ends_all hi hs he d (j + 1) (by omega) p hp h2)
      have a5 : iter F (i + 1) s = (f : Int) := by
        rw [iter_succ, if_neg (by omega), a4]
        simpa using hx
      refine ⟨s, i + 1, a1, a2, ?_, a5⟩
      have a6 := start_ends hi hs a1 a2
      rcases Nat.lt_or_ge (i + 1) n with h7 | h7
      · exact h7
      · exfalso
        have := iter_stay F a6 h7
        omega

/-- All chains end just where those that nothing leads to have all frames. -/
theorem ends_iff (hi : Inside F n) (hs : Single F n) : (cov F n n).length = n ↔ Ends F n := by
  have hd := cov_nodup hi hs n (Nat.le_refl n)
  have hlt : ∀ x ∈ cov F n n, x < n := by
    intro x hx
    obtain ⟨s, i, a1, _, _, a4⟩ := (mem_cov hi (Nat.le_refl n) x).1 hx
    have := iter_in hi a1 i
    omega
  obtain ⟨h1, h2⟩ := nodup_le n _ hd hlt
  constructor
  · intro hl f hf
    obtain ⟨s, i, a1, a2, _, a4⟩ := (mem_cov hi (Nat.le_refl n) f).1 (h2 hl f hf)
    rw [← a4, ← iter_add]
    exact iter_stay F (start_ends hi hs a1 a2) (by omega)
  · intro he
    have := subset_le (List.range n) (cov F n n) List.nodup_range (fun x hx => ends_all hi hs he (n + 1) 0 (by omega) x (by simpa using hx) (by simp only [iter]; omega))
    simp at this
    omega

theorem cov_le (hi : Inside F n) (hs : Single F n) {t : Nat} (ht : t ≤ n) : (cov F n t).length ≤ n := by
  refine (nodup_le n _ (cov_nodup hi hs t ht) ?_).1
  intro x hx
  obtain ⟨s, i, a1, _, _, a4⟩ := (mem_cov hi ht x).1 hx
  have := iter_in hi (show s < n by omega) i
  omega

/-- No two of the first t frames have one next frame. -/
def SingleTo (F : Nat → Fr) (t : Nat) : Prop := ∀ f g, f < t → g < t → (F f).nx = (F g).nx → (F f).nx ≠ -1 → f = g
theorem singleTo_zero : SingleTo F 0 := fun f g h => absurd h (by omega)
theorem singleTo_none {t : Nat} (h : SingleTo F t) (hx : (F t).nx = -1) : SingleTo F (t + 1) := by
  intro f g hf hg he hn
  rcases (show f < t ∨ f = t by omega) with h1 | rfl
  · rcases (show g < t ∨ g = t by omega) with h2 | rfl
    · exact h f g h1 h2 he hn
    · exact absurd (he.trans hx) hn
  · exact absurd hx hn
theorem singleTo_new {t : Nat} (h : SingleTo F t) (hx : fol F t (F t).nx = false) : SingleTo F (t + 1) := by
  have hno : ∀ f, f < t → (F f).nx ≠ (F t).nx := by
    intro f hf e
    have := (fol_iff F t (F t).nx).2 ⟨f, hf, e⟩
    rw [hx] at this
    cases this
  intro f g hf hg he hn
  rcases (show f < t ∨ f = t by omega) with h1 | rfl
  · rcases (show g < t ∨ g = t by omega) with h2 | rfl
    · exact h f g h1 h2 he hn
    · exact absurd he (hno f h1)
  · rcases (show g < f ∨ g = f by omega) with h2 | rfl
    · exact absurd he.symm (hno g h2)
    · rfl
theorem single_not {t : Nat} (ht : t < n) (hx : fol F t (F t).nx = true) (hn : (F t).nx ≠ -1) : ¬ Single F n := by
  intro h
  obtain ⟨f, hf, e⟩ := (fol_iff F t (F t).nx).1 hx
  have := h f t (by omega) ht e (by rw [e]; exact hn)
  omega
theorem fol_none {t : Nat} (hx : (F t).nx = -1) (j : Nat) : fol F (t + 1) j = fol F t j := by
  rw [fol_succ, hx]
  have : ((-1 : Int) == (j : Int)) = false := by simp
  rw [this, Bool.or_false]
theorem fol_set {t y : Nat} (hx : (F t).nx = y) (j : Nat) : fol F (t + 1) j = if j = y then true else fol F t j := by
  rw [fol_succ, hx]
  by_cases e : j = y
  · subst e; simp
  · rw [if_neg e]
    have : ((y : Int) == (j : Int)) = false := by simp; omega
    rw [this, Bool.or_false]

/-- Whether no frame is the next one of two, and every chain ends. -/
noncomputable def linkB (F : Nat → Fr) (n : Nat) : Bool := @decide (Single F n ∧ Ends F n) (Classical.propDecidable _)
theorem linkB_yes (h : Single F n ∧ Ends F n) : true = linkB F n := (@decide_eq_true _ (Classical.propDecidable _) h).symm
theorem linkB_no (h : ¬ (Single F n ∧ Ends F n)) : false = linkB F n := (@decide_eq_false _ (Classical.propDecidable _) h).symm
theorem linkB_of (h : linkB F n = true) : Single F n ∧ Ends F n := @of_decide_eq_true _ (Classical.propDecidable _) h
theorem linkB_not (h : linkB F n = false) : ¬ (Single F n ∧ Ends F n) := fun k => by rw [← linkB_yes k] at h; cases h
end

/-- Whether a frame is free, with its words 0, or owned, with its link well. -/
def frameB (wd : Nat → Int) (k n : Nat) (F : Nat → Fr) (f : Nat) : Bool := (frB (F f) frFree && zeroB wd k f) || ownB n F f

/-- A valid space: chapter 3. -/
def ValidP (s : Int) (nw : Nat) (wd : Nat → Int) (n : Nat) (F : Nat → Fr) : Prop :=
  shB s = true ∧ nfB n = true ∧ nw = n * 2 ^ s.toNat ∧ (∀ f, f < n → frameB wd s.toNat n F f = true) ∧ Single F n ∧ Ends F n
noncomputable def validB (s : Int) (nw : Nat) (wd : Nat → Int) (n : Nat) (F : Nat → Fr) : Bool := @decide (ValidP s nw wd n F) (Classical.propDecidable _)
section
variable {s : Int} {nw : Nat} {wd : Nat → Int} {n : Nat} {F : Nat → Fr}
theorem validB_yes (h : ValidP s nw wd n F) : validB s nw wd n F = true := @decide_eq_true _ (Classical.propDecidable _) h
theorem validB_no (h : ¬ ValidP s nw wd n F) : validB s nw wd n F = false := @decide_eq_false _ (Classical.propDecidable _) h
theorem validB_of (h : validB s nw wd n F = true) : ValidP s nw wd n F := @of_decide_eq_true _ (Classical.propDecidable _) h
theorem validB_not (h : validB s nw wd n F = false) : ¬ ValidP s nw wd n F := fun k => by rw [validB_yes k] at h; cases h

theorem nfB_yes {n : Int} (h : nfB n = true) : 2 ≤ n ∧ n ≤ 64 := by simpa [nfB] using h
theorem ownB_yes {f : Nat} (h : ownB n F f = true) : stB (F f).st (F f).ow = true ∧ ((F f).nx = -1 ∨ ∃ g : Nat, (F f).nx = g ∧ g < n ∧ g ≠ f ∧ (F g).ow = (F f).ow ∧ (F g).st = (F f).st) := by
  simp only [ownB, Bool.and_eq_true, Bool.or_eq_true, decide_eq_true_eq] at h
  refine ⟨h.1, ?_⟩
  rcases h.2 with h2 | ⟨⟨⟨h2, h3⟩, h4⟩, h5⟩
  · exact .inl h2
  · obtain ⟨a, b⟩ := inB_yes h2
    obtain ⟨g, hg⟩ : ∃ g : Nat, (F f).nx = g := ⟨(F f).nx.toNat, by omega⟩
    rw [hg] at h3 h4 h5 b
    rw [Int.toNat_natCast] at h4 h5
    exact .inr ⟨g, hg, by omega, by omega, h4, h5⟩
theorem ownB_of {f : Nat} (h : stB (F f).st (F f).ow = true) (h2 : (F f).nx = -1 ∨ ∃ g : Nat, (F f).nx = g ∧ g < n ∧ g ≠ f ∧ (F g).ow = (F f).ow ∧ (F g).st = (F f).st) : ownB n F f = true := by
  simp only [ownB, Bool.and_eq_true, Bool.or_eq_true, decide_eq_true_eq]
  refine ⟨h, ?_⟩
  rcases h2 with h2 | ⟨g, h2, h3, h4, h5, h6⟩
  · exact .inl h2
  · right
    rw [h2, Int.toNat_natCast]
    exact ⟨⟨⟨by simp [inB]; omega, by omega⟩, h5⟩, h6⟩
theorem ownB_no {f : Nat} (h : ¬ (stB (F f).st (F f).ow = true ∧ ((F f).nx = -1 ∨ ∃ g : Nat, (F f).nx = g ∧ g < n ∧ g ≠ f ∧ (F g).ow = (F f).ow ∧ (F g).st = (F f).st))) : ownB n F f = false := by
  rcases ho : ownB n F f with _ | _
  · rfl
  · exact absurd (ownB_yes ho) h
theorem frB_no {f : Fr} (h : ¬ (f.ow = -1 ∧ f.st = -1 ∧ f.nx = -1)) : frB f frFree = false := by
  rcases hf : frB f frFree with _ | _
  · rfl
  · have := frB_yes hf
    subst this
    exact absurd ⟨rfl, rfl, rfl⟩ h
theorem frameB_no {k f : Nat} (h1 : (frB (F f) frFree && zeroB wd k f) = false) (h2 : ownB n F f = false) : frameB wd k n F f = false := by
  simp only [frameB, h1, h2, Bool.or_self]
theorem frameB_own {k f : Nat} (h2 : ownB n F f = true) : frameB wd k n F f = true := by
  simp [frameB, h2]
theorem frameB_free {k f : Nat} (h1 : F f = frFree) (h2 : zeroB wd k f = true) : frameB wd k n F f = true := by
  simp [frameB, h1, h2, frB_self]
theorem frameB_cases {k f : Nat} (h : frameB wd k n F f = true) : (F f = frFree ∧ zeroB wd k f = true) ∨ ownB n F f = true := by
  simp only [frameB, Bool.or_eq_true, Bool.and_eq_true] at h
  rcases h with ⟨h1, h2⟩ | h
  · exact .inl ⟨frB_yes h1, h2⟩
  · exact .inr h
theorem inside_of {k : Nat} (h : ∀ f, f < n → frameB wd k n F f = true) : Inside F n := by
  intro f hf
  rcases frameB_cases (h f hf) with ⟨h1, _⟩ | h1
  · left; rw [h1]; rfl
  · rcases (ownB_yes h1).2 with h2 | ⟨g, h2, h3, _⟩
    · exact .inl h2
    · right; omega
end

theorem valid_fresh {k n : Nat} (h1 : 3 ≤ k) (h2 : k ≤ 8) (h3 : 2 ≤ n) (h4 : n ≤ 64) : ValidP k (n * 2 ^ k) (fun _ => 0) n (fun _ => frFree) := by
  refine ⟨by simp [shB]; omega, by simp [nfB]; omega, by rw [Int.toNat_natCast], fun f hf => ?_, fun f g _ _ _ h => absurd rfl h, fun f hf => ?_⟩
  · simp [frameB, frB_self, zeroB]
  · have : iter (fun _ => frFree) 1 (f : Int) = -1 := by simp [iter, frFree]
    exact iter_stay _ this (by omega)
end Go.Proofs.Ytjkbjbikofindaa

namespace Go.Proofs.Ytjkbjbikofindaa
set_option maxRecDepth 100000

/-- The frames of a valid space, without their words. -/
def FV (F : Nat → Fr) (n : Nat) : Prop := (∀ f, f < n → F f = frFree ∨ ownB n F f = true) ∧ Single F n ∧ Ends F n
/-- The words of all free frames are 0. -/
def Zr (wd : Nat → Int) (k n : Nat) (F : Nat → Fr) : Prop := ∀ f, f < n → F f = frFree → zeroB wd k f = true

section
variable {s : Int} {nw k n : Nat} {wd : Nat → Int} {F F' : Nat → Fr}
theorem ValidP.fv (h : ValidP s nw wd n F) : FV F n :=
  ⟨fun f hf => (frameB_cases (h.2.2.2.1 f hf)).elim (fun x => .inl x.1) .inr, h.2.2.2.2⟩
theorem ownB_pos {f : Nat} (h : ownB n F f = true) : 0 ≤ (F f).ow := (stB_yes (ownB_yes h).1).1
theorem ValidP.zr (h : ValidP s nw wd n F) : Zr wd s.toNat n F := by
  intro f hf he
  rcases frameB_cases (h.2.2.2.1 f hf) with h1 | h1
  · exact h1.2
  · have := ownB_pos h1
    rw [he] at this
    exact absurd this (by decide)
theorem ValidP.mk_ (h1 : shB s = true) (h2 : nfB n = true) (h3 : nw = n * 2 ^ s.toNat) (hf : FV F n) (hz : Zr wd s.toNat n F) : ValidP s nw wd n F := by
  refine ⟨h1, h2, h3, fun f hlt => ?_, hf.2⟩
  rcases hf.1 f hlt with h | h
  · exact frameB_free h (hz f hlt h)
  · exact frameB_own h
theorem FV.inside (h : FV F n) : Inside F n := by
  intro f hf
  rcases h.1 f hf with h1 | h1
  · left; rw [h1]; rfl
  · rcases (ownB_yes h1).2 with h2 | ⟨g, h2, h3, _⟩
    · exact .inl h2
    · right; omega
theorem FV.free (h : FV F n) {f : Nat} (hf : f < n) (ho : (F f).ow = -1) : F f = frFree := by
  rcases h.1 f hf with h1 | h1
  · exact h1
  · have := ownB_pos h1; omega
theorem FV.own (h : FV F n) {f : Nat} (hf : f < n) (ho : (F f).ow ≠ -1) : ownB n F f = true := by
  rcases h.1 f hf with h1 | h1
  · rw [h1] at ho; exact absurd rfl ho
  · exact h1

/-- Along a chain the owner and the stamp stay. -/
theorem FV.along (h : FV F n) {p : Nat} (hp : p < n) (ho : (F p).ow ≠ -1) : ∀ i, iter F i p ≠ -1 → (F (iter F i p).toNat).ow = (F p).ow ∧ (F (iter F i p).toNat).st = (F p).st
  | 0, _ => by simp [iter]
  | i + 1, hne => by
    have hi : iter F i p ≠ -1 := fun e => hne (iter_stay F e (by omega))
    obtain ⟨h1, h2⟩ := FV.along h hp ho i hi
    have hin := iter_in h.inside hp i
    have hq : (iter F i p).toNat < n := by omega
    have hown := h.own hq (by rw [h1]; exact ho)
    have e : iter F (i + 1) p = (F (iter F i p).toNat).nx := by rw [iter_succ, if_neg hi]
    rw [e] at hne ⊢
    rcases (ownB_yes hown).2 with h3 | ⟨g, h3, h4, h5, h6, h7⟩
    · exact absurd h3 hne
    · rw [h3, Int.toNat_natCast]
      exact ⟨h6.trans h1, h7.trans h2⟩

theorem iter_congr (e : ∀ j, (F j).nx = (F' j).nx) : ∀ (i : Nat) (f : Int), iter F i f = iter F' i f
  | 0, _ => rfl
  | i + 1, f => by
    simp only [iter]
    by_cases h : f = -1
    · rw [if_pos h, if_pos h]
    · rw [if_neg h, if_neg h, e, iter_congr e i]

/-- A chain that ends at all ends within n links. -/
theorem ends_of (hi : Inside F n) (h : ∀ f, f < n → ∃ N, iter F N (f : Nat) = -1) : Ends F n := by
  intro f hf
  obtain ⟨N, hN⟩ := h f hf
  -- the least such N
  have hl : ∃ M, iter F M (f : Nat) = -1 ∧ ∀ j, j < M → iter F j (f : Nat) ≠ -1 := by
    induction N using Nat.strongRecOn with
    | _ N ih =>
      by_cases hx : ∃ j, j < N ∧ iter F j (f : Nat) = -1
      · obtain ⟨j, hj, hj2⟩ := hx
        exact ih j hj hj2
      · exact ⟨N, hN, fun j hj e => hx ⟨j, hj, e⟩⟩
  obtain ⟨M, hM, hmin⟩ := hl
  rcases Nat.lt_or_ge (n + 1) M with hlt | hge
  · exfalso
    have hd : ((List.range M).map fun i => (iter F i (f : Nat)).toNat).Nodup := by
      rw [List.nodup_iff_pairwise_ne, List.pairwise_map]
      have key : ∀ i j, i < j → j < M → iter F i (f : Nat) ≠ iter F j (f : Nat) := by
        intro i j hij hj e
        have h1 : iter F (j + (M - j)) (f : Nat) = -1 := by rw [show j + (M - j) = M by omega]; exact hM
        rw [iter_add, ← e, ← iter_add] at h1
        exact hmin (i + (M - j)) (by omega) h1
      refine (List.nodup_iff_pairwise_ne.1 List.nodup_range).imp_of_mem ?_
      intro i j ha hb hij e
      simp at ha hb
      have a1 := iter_in hi hf i
      have a2 := iter_in hi hf j
      have b1 := hmin i ha
      have b2 := hmin j hb
      rcases Nat.lt_or_ge i j with h3 | h3
      · exact key i j h3 hb (by omega)
      · exact key j i (by omega) ha (by omega)
    have := (nodup_le n _ hd (by
      intro x hx
      simp only [List.mem_map, List.mem_range] at hx
      obtain ⟨i, hin, rfl⟩ := hx
      have a1 := iter_in hi hf i
      have b1 := hmin i hin
      omega)).1
    simp at this
    omega
  · exact iter_stay F hM hge

/-- A frame is taken: it gets an owner and a stamp. -/
def lift (F : Nat → Fr) (f : Nat) (o s : Int) : Nat → Fr := fun j => if j = f then ⟨o, s, -1⟩ else F j
/-- A frame gets a next one. -/
def link (F : Nat → Fr) (l : Nat) (f : Int) : Nat → Fr := fun j => if j = l then ⟨(F l).ow, (F l).st, f⟩ else F j

theorem lift_same (f : Nat) (o s : Int) : lift F f o s f = ⟨o, s, -1⟩ := if_pos rfl
theorem lift_other {f j : Nat} (h : j ≠ f) (o s : Int) : lift F f o s j = F j := if_neg h
theorem link_same (l : Nat) (f : Int) : link F l f l = ⟨(F l).ow, (F l).st, f⟩ := if_pos rfl
theorem link_other {l j : Nat} (h : j ≠ l) (f : Int) : link F l f j = F j := if_neg h

theorem lift_nx {f : Nat} (h : F f = frFree) (o s : Int) (j : Nat) : (lift F f o s j).nx = (F j).nx := by
  by_cases e : j = f
  · subst e; rw [lift_same, h]; rfl
  · rw [lift_other e]

theorem lift_fv (h : FV F n) {f : Nat} (hff : F f = frFree) {o s : Int} (hst : stB s o = true) : FV (lift F f o s) n := by
  have hnx := lift_nx hff o s
  refine ⟨fun j hj => ?_, ?_, ?_⟩
  · by_cases e : j = f
    · subst e
      right
      exact ownB_of (by rw [lift_same]; exact hst) (.inl (by rw [lift_same]))
    · rcases h.1 j hj with h1 | h1
      · left; rw [lift_other e]; exact h1
      · right
        have hp := ownB_pos h1
        obtain ⟨a, b⟩ := ownB_yes h1
        refine ownB_of (by rw [lift_other e]; exact a) ?_
        rw [lift_other e]
        rcases b with b | ⟨g, b1, b2, b3, b4, b5⟩
        · exact .inl b
        · have hg : g ≠ f := fun e2 => by
            rw [e2, hff] at b4
            have : (frFree.ow : Int) = -1 := rfl
            omega
          exact .inr ⟨g, b1, b2, b3, by rw [lift_other hg]; exact b4, by rw [lift_other hg]; exact b5⟩
  · intro a b ha hb he hne
    rw [hnx, hnx] at he
    rw [hnx] at hne
    exact h.2.1 a b ha hb he hne
  · intro j hj
    rw [iter_congr hnx]
    exact h.2.2 j hj

theorem link_fv (h : FV F n) {l f : Nat} (hl : l < n) (hf : f < n) (hlf : f ≠ l) (hln : (F l).nx = -1) (hfn : (F f).nx = -1) (hpos : (F l).ow ≠ -1) (h1 : (F f).ow = (F l).ow) (h2 : (F f).st = (F l).st)
    (hno : ∀ j, j < n → (F j).nx ≠ f) : FV (link F l f) n := by
  have how : ∀ j, (link F l f j).ow = (F j).ow := by
    intro j
    by_cases e : j = l
    · subst e; rw [link_same]
    · rw [link_other e]
  have hst : ∀ j, (link F l f j).st = (F j).st := by
    intro j
    by_cases e : j = l
    · subst e; rw [link_same]
    · rw [link_other e]
  have hin : Inside (link F l f) n := by
    intro j hj
    by_cases e : j = l
    · subst e; right; rw [link_same]; show (0 : Int) ≤ (f : Int) ∧ (f : Int) < n; omega
    · rw [link_other e]; exact h.inside j hj
  refine ⟨fun j hj => ?_, ?_, ?_⟩
  · by_cases e : j = l
    · subst e
      right
      have a := ownB_yes (h.own hj hpos)
      exact ownB_of (by rw [how, hst]; exact a.1) (.inr ⟨f, by rw [link_same], hf, hlf, by rw [how, how]; exact h1, by rw [hst, hst]; exact h2⟩)
    · rcases h.1 j hj with h3 | h3
      · left; rw [link_other e]; exact h3
      · right
        obtain ⟨a, b⟩ := ownB_yes h3
        refine ownB_of (by rw [how, hst]; exact a) ?_
        rw [link_other e]
        rcases b with b | ⟨g, b1, b2, b3, b4, b5⟩
        · exact .inl b
        · exact .inr ⟨g, b1, b2, b3, by rw [how]; exact b4, by rw [hst]; exact b5⟩
  · intro a b ha hb he hne
    by_cases ea : a = l
    · by_cases eb : b = l
      · rw [ea, eb]
      · subst ea
        rw [link_same, link_other eb] at he
        exact absurd he.symm (hno b hb)
    · by_cases eb : b = l
      · subst eb
        rw [link_same, link_other ea] at he
        exact absurd he (hno a ha)
      · rw [link_other ea, link_other eb] at he
        rw [link_other ea] at hne
        exact h.2.1 a b ha hb he hne
  · refine ends_of hin fun j hj => ?_
    have key : ∀ (N : Nat) (x : Int), (x = -1 ∨ (0 ≤ x ∧ x < n)) → iter F N x = -1 → ∃ N', iter (link F l f) N' x = -1 := by
      intro N
      induction N with
      | zero => intro x _ hx; exact ⟨0, hx⟩
      | succ N ih =>
        intro x hr hx
        rcases hr with hr | hr
        · exact ⟨0, hr⟩
        · by_cases e : x = (l : Int)
          · refine ⟨2, ?_⟩
            subst e
            simp only [iter]
            rw [if_neg (by omega), Int.toNat_natCast, link_same]
            show (if (f : Int) = -1 then (-1 : Int) else (link F l f (f : Int).toNat).nx) = -1
            rw [if_neg (by omega), Int.toNat_natCast, link_other hlf]
            exact hfn
          · have e2 : x.toNat ≠ l := by omega
            simp only [iter] at hx
            rw [if_neg (by omega)] at hx
            obtain ⟨N', hN'⟩ := ih _ (h.inside x.toNat (by omega)) hx
            refine ⟨N' + 1, ?_⟩
            simp only [iter]
            rw [if_neg (by omega), link_other e2]
            exact hN'
    exact key (n + 1) j (by omega) (h.2.2 j hj)

/-- The chain of an increment: m frames from first to last, with one owner and stamp; none if m is 0. -/
def ChainP (F : Nat → Fr) (n : Nat) (first last : Int) (m : Nat) (o s : Int) : Prop :=
  (m = 0 ∧ first = -1) ∨ (0 < m ∧ ∃ p l : Nat, first = p ∧ p < n ∧ last = l ∧ l < n ∧ iter F (m - 1) p = l ∧ (F l).nx = -1 ∧ (F p).ow = o ∧ (F p).st = s)

theorem ChainP.end_ {first last o s : Int} {m : Nat} (h : ChainP F n first last m o s) (hm : 0 < m) : iter F m first = -1 := by
  rcases h with ⟨h, _⟩ | ⟨_, p, l, rfl, _, _, _, h4, h5, _⟩
  · omega
  · rw [show m = (m - 1) + 1 by omega, iter_succ, h4, if_neg (by omega), Int.toNat_natCast]
    exact h5
theorem ChainP.at_ {first last o s : Int} {m : Nat} (h : ChainP F n first last m o s) (hv : FV F n) (hs : stB s o = true) {i : Nat} (hi : i < m) :
    ∃ q : Nat, iter F i first = q ∧ q < n ∧ (F q).ow = o ∧ (F q).st = s := by
  rcases h with ⟨h, _⟩ | ⟨_, p, l, rfl, hp, _, hl, h4, h5, h6, h7⟩
  · omega
  · have hne : iter F i p ≠ -1 := fun e => by have := iter_stay F e (show i ≤ m - 1 by omega); omega
    have hin := iter_in hv.inside hp i
    have ho : (F p).ow ≠ -1 := by have := (stB_yes hs).1; omega
    obtain ⟨a, b⟩ := hv.along hp ho i hne
    refine ⟨(iter F i p).toNat, by omega, by omega, a.trans h6, b.trans h7⟩

/-- One frame more. -/
theorem grow_first (hv : FV F n) {f : Nat} (hf : f < n) (hff : F f = frFree) {o s : Int} (hst : stB s o = true) :
    FV (lift F f o s) n ∧ ChainP (lift F f o s) n f f 1 o s :=
  ⟨lift_fv hv hff hst, .inr ⟨by omega, f, f, rfl, hf, rfl, hf, rfl, by rw [lift_same], by rw [lift_same], by rw [lift_same]⟩⟩

theorem grow_next (hv : FV F n) {m p l f : Nat} {o s : Int} (hst : stB s o = true) (hm : 0 < m) (hf : f < n) (hff : F f = frFree) (h : ChainP F n p l m o s) :
    FV (link (lift F f o s) l f) n ∧ ChainP (link (lift F f o s) l f) n p f (m + 1) o s := by
  have ho := (stB_yes hst).1
  have hlast := h.at_ hv hst (show m - 1 < m by omega)
  rcases h with ⟨h, _⟩ | ⟨_, p', l', e1, hp, e2, hl, h4, h5, h6, h7⟩
  · omega
  · obtain rfl : p = p' := by omega
    obtain rfl : l = l' := by omega
    obtain ⟨q, hq1, hq2, hq3, hq4⟩ := hlast
    obtain rfl : q = l := by omega
    have hql : f ≠ q := fun e => by rw [← e, hff] at hq3; have : (frFree.ow : Int) = -1 := rfl; omega
    have hpf : p ≠ f := fun e => by rw [e, hff] at h6; have : (frFree.ow : Int) = -1 := rfl; omega
    have hlv := lift_fv hv hff hst
    have hnx := lift_nx hff o s
    have hno : ∀ j, j < n → (lift F f o s j).nx ≠ f := by
      intro j hj e
      rw [hnx] at e
      rcases hv.1 j hj with h1 | h1
      · rw [h1] at e; have : (frFree.nx : Int) = -1 := rfl; omega
      · have hp1 := ownB_pos h1
        rcases (ownB_yes h1).2 with h2 | ⟨g, b1, b2, b3, b4, b5⟩
        · omega
        · obtain rfl : g = f := by omega
          rw [hff] at b4
          have : (frFree.ow : Int) = -1 := rfl
          omega
    have e1 : (lift F f o s q).ow = o := by rw [lift_other (Ne.symm hql)]; exact hq3
    have e2 : (lift F f o s q).st = s := by rw [lift_other (Ne.symm hql)]; exact hq4
    refine ⟨link_fv hlv hl hf hql (by rw [hnx]; exact h5) (by rw [lift_same]) (by omega) (by rw [e1, lift_same]) (by rw [e2, lift_same]) hno, ?_⟩
    have hwalk : ∀ i, i ≤ m - 1 → iter (link (lift F f o s) q f) i p = iter F i p := by
      intro i
      induction i with
      | zero => intro _; rfl
      | succ i ih =>
        intro hi
        rw [iter_succ, iter_succ, ih (by omega)]
        have hne : iter F i p ≠ -1 := fun e => by have := iter_stay F e (show i ≤ m - 1 by omega); omega
        have hin := iter_in hv.inside hp i
        rw [if_neg hne, if_neg hne]
        have hnl : (iter F i p).toNat ≠ q := by
          intro e
          have h1 : iter F (i + 1) p = -1 := by
            rw [iter_succ, if_neg hne, e]
            exact h5
          have := iter_stay F h1 (show i + 1 ≤ m - 1 by omega)
          omega
        rw [link_other hnl, hnx]
    refine .inr ⟨by omega, p, f, rfl, hp, rfl, hf, ?_, ?_, ?_, ?_⟩
    · show iter _ (m + 1 - 1) _ = _
      rw [show m + 1 - 1 = (m - 1) + 1 by omega, iter_succ, hwalk (m - 1) (by omega), h4, if_neg (by omega), Int.toNat_natCast, link_same]
    · rw [link_other hql, lift_same]
    · by_cases e : p = q
      · subst e; rw [link_same]; show (lift F f o s p).ow = o; rw [lift_other hpf]; exact h6
      · rw [link_other e, lift_other hpf]; exact h6
    · by_cases e : p = q
      · subst e; rw [link_same]; show (lift F f o s p).st = s; rw [lift_other hpf]; exact h7
      · rw [link_other e, lift_other hpf]; exact h7

/-- How many of the first t frames are free. -/
def freeN (F : Nat → Fr) : Nat → Nat
  | 0 => 0
  | t + 1 => freeN F t + (if (F t).ow = -1 then 1 else 0)
theorem freeN_le : ∀ t, freeN F t ≤ t
  | 0 => Nat.le_refl _
  | t + 1 => by have := freeN_le t; simp only [freeN]; split <;> omega
theorem freeN_lift {f : Nat} {o s : Int} (hf : (F f).ow = -1) (ho : o ≠ -1) : ∀ t, freeN (lift F f o s) t + (if f < t then 1 else 0) = freeN F t
  | 0 => by simp [freeN]
  | t + 1 => by
    have ih := freeN_lift (s := s) hf ho t
    simp only [freeN]
    by_cases e : t = f
    · subst e
      rw [lift_same, if_neg (show ¬ (⟨o, s, -1⟩ : Fr).ow = -1 from ho), if_pos hf, if_pos (by omega)]
      rw [if_neg (by omega)] at ih
      omega
    · rw [lift_other e]
      by_cases h : f < t
      · rw [if_pos h] at ih
        rw [if_pos (show f < t + 1 by omega)]
        omega
      · rw [if_neg h] at ih
        rw [if_neg (show ¬ f < t + 1 by omega)]
        omega
theorem freeN_link {l : Nat} {f : Int} : ∀ t, freeN (link F l f) t = freeN F t
  | 0 => rfl
  | t + 1 => by
    simp only [freeN, freeN_link t]
    by_cases e : t = l
    · subst e; rw [link_same]
    · rw [link_other e]
theorem freeN_none : ∀ t, (∀ f, f < t → (F f).ow ≠ -1) → freeN F t = 0
  | 0, _ => rfl
  | t + 1, h => by
    simp only [freeN, freeN_none t (fun f hf => h f (by omega)), if_neg (h t (by omega))]

/-- The words of free frames stay 0 where free frames were free before. -/
theorem Zr.mono {F F' : Nat → Fr} (h : Zr wd k n F) (hs : ∀ f, f < n → F' f = frFree → F f = frFree) : Zr wd k n F' := fun f hf he => h f hf (hs f hf he)
theorem lift_free {f : Nat} {o s : Int} (ho : o ≠ -1) {j : Nat} (h : lift F f o s j = frFree) : F j = frFree := by
  by_cases e : j = f
  · subst e; rw [lift_same] at h; exact absurd (congrArg Fr.ow h) ho
  · rw [lift_other e] at h; exact h
theorem link_free {l : Nat} {f : Int} (hl : (F l).ow ≠ -1) {j : Nat} (h : link F l f j = frFree) : F j = frFree := by
  by_cases e : j = l
  · subst e; rw [link_same] at h; exact absurd (congrArg Fr.ow h) hl
  · rw [link_other e] at h; exact h

/-- The address of place p of a chain. -/
def addrP (F : Nat → Fr) (k : Nat) (first : Int) (p : Nat) : Int := iter F (p / 2 ^ k) first * 2 ^ k + (p % 2 ^ k : Nat)
end
end Go.Proofs.Ytjkbjbikofindaa

namespace Go.Proofs.Ytjkbjbikofindaa
set_option maxRecDepth 100000

/-- The frames of the chain from p, in their order. -/
def chL (F : Nat → Fr) (n p : Nat) : List Nat := path F (n + 1) p

section
variable {F : Nat → Fr} {n : Nat}

/-- A chain from p has m frames. -/
def LenP (F : Nat → Fr) (p : Int) (m : Nat) : Prop := iter F m p = -1 ∧ ∀ i, i < m → iter F i p ≠ -1

theorem least_end : ∀ (N : Nat) (f : Int), iter F N f = -1 → ∃ m, m ≤ N ∧ LenP F f m
  | 0, f, h => ⟨0, Nat.le_refl _, h, fun i hi => absurd hi (Nat.not_lt_zero i)⟩
  | N + 1, f, h => by
    by_cases e : iter F N f = -1
    · obtain ⟨m, h1, h2⟩ := least_end N f e
      exact ⟨m, by omega, h2⟩
    · refine ⟨N + 1, Nat.le_refl _, h, fun i hi e2 => e (iter_stay F e2 (by omega))⟩
theorem FV.len (h : FV F n) {p : Nat} (hp : p < n) : ∃ m, m ≤ n + 1 ∧ LenP F p m := least_end (n + 1) p (h.2.2 p hp)
theorem LenP.bound {p : Int} {m : Nat} (h : LenP F p m) (hv : FV F n) {q : Nat} (e : p = (q : Int)) (hq : q < n) : m ≤ n + 1 := by
  rcases Nat.lt_or_ge (n + 1) m with h1 | h1
  · subst e; exact absurd (hv.2.2 q hq) (h.2 _ h1)
  · exact h1
theorem LenP.pos {p : Nat} {m : Nat} (h : LenP F p m) : 0 < m := by
  rcases Nat.eq_zero_or_pos m with rfl | h1
  · have := h.1; simp only [iter] at this; omega
  · exact h1
theorem LenP.uniq {p : Int} {m m' : Nat} (h : LenP F p m) (h' : LenP F p m') : m = m' := by
  rcases Nat.lt_trichotomy m m' with h1 | h1 | h1
  · exact absurd h.1 (h'.2 m h1)
  · exact h1
  · exact absurd h'.1 (h.2 m' h1)
theorem chL_length {p m : Nat} (h : LenP F p m) (hm : m ≤ n + 1) : (chL F n p).length = m := path_length (n + 1) p m hm h.1 h.2

theorem path_get : ∀ (M : Nat) (f : Int) (m : Nat), m ≤ M → (∀ i, i < m → 0 ≤ iter F i f) → ∀ i, i < m → (path F M f)[i]? = some (iter F i f).toNat
  | 0, f, m, hm, _, i, hi => absurd hi (by omega)
  | M + 1, f, m, hm, hne, i, hi => by
    have h0 := hne 0 (by omega)
    simp only [iter] at h0
    have e : f ≠ -1 := by omega
    simp only [path, if_neg e]
    rcases i with _ | i
    · simp [iter]
    · have := path_get M (F f.toNat).nx (m - 1) (by omega) (fun j hj => by have := hne (j + 1) (by omega); simpa only [iter, if_neg e] using this) i (by omega)
      simpa only [List.getElem?_cons_succ, iter, if_neg e] using this

theorem FV.nonneg (h : FV F n) {p : Nat} (hp : p < n) {i : Nat} (hi : iter F i p ≠ -1) : 0 ≤ iter F i p ∧ iter F i p < n := by
  have := iter_in h.inside hp i; omega
theorem chL_get (h : FV F n) {p m : Nat} (hp : p < n) (hl : LenP F p m) {i : Nat} (hi : i < m) : (chL F n p)[i]? = some (iter F i p).toNat :=
  path_get (n + 1) p m (hl.bound h rfl hp) (fun j hj => (h.nonneg hp (hl.2 j hj)).1) i hi
theorem mem_chL (h : FV F n) {p : Nat} (hp : p < n) (x : Nat) : x ∈ chL F n p ↔ ∃ i, i < n + 1 ∧ iter F i p = (x : Int) :=
  mem_path (n + 1) p (by omega) (fun i => by have := iter_in h.inside hp i; omega) x
theorem mem_chL' (h : FV F n) {p m : Nat} (hp : p < n) (hl : LenP F p m) (x : Nat) : x ∈ chL F n p ↔ ∃ i, i < m ∧ iter F i p = (x : Int) := by
  rw [mem_chL h hp]
  constructor
  · rintro ⟨i, h1, h2⟩
    refine ⟨i, ?_, h2⟩
    rcases Nat.lt_or_ge i m with h3 | h3
    · exact h3
    · have := iter_stay F hl.1 h3; omega
  · rintro ⟨i, h1, h2⟩
    exact ⟨i, by have := hl.bound h rfl hp; omega, h2⟩
theorem chL_all (h : FV F n) {p : Nat} (hp : p < n) : ∀ x ∈ chL F n p, x < n := by
  intro x hx
  obtain ⟨i, _, h2⟩ := (mem_chL h hp x).1 hx
  have := h.nonneg hp (i := i) (by omega)
  omega
/-- The first place of a frame in its chain. -/
theorem chL_index (h : FV F n) {p m : Nat} (hp : p < n) (hl : LenP F p m) {q x : Nat} (hq : q < m) (e : iter F q p = (x : Int)) (hno : ∀ i, i < q → iter F i p ≠ (x : Int)) : (chL F n p).idxOf x = q := by
  have hlen := chL_length hl (hl.bound h rfl hp)
  have g := chL_get h hp hl hq
  rw [e, Int.toNat_natCast] at g
  have hq2 : q < (chL F n p).length := by omega
  have at_ : ∀ (j : Nat) (hj : j < m) (hj2 : j < (chL F n p).length), (chL F n p)[j] = (iter F j p).toNat := fun j hj hj2 => by
    have h1 := chL_get h hp hl hj
    rw [List.getElem?_eq_getElem hj2] at h1
    exact Option.some.inj h1
  show (chL F n p).findIdx (· == x) = q
  rw [List.findIdx_eq hq2]
  refine ⟨?_, fun j hj => ?_⟩
  · rw [at_ q hq hq2, e]; simp
  · rw [at_ j (by omega) (by omega)]
    have h1 := hno j hj
    have h2 := h.nonneg hp (hl.2 j (by omega))
    simp
    omega

/-- What append makes of a chain, frame after frame. -/
theorem numF_chL (h : FV F n) {p m : Nat} (hp : p < n) (hl : LenP F p m) {i : Nat} (hi : i < m) : (((chL F n p).getD i 0 : Nat) : Int) = iter F i p := by
  rw [List.getD_eq_getElem?_getD, chL_get h hp hl hi]
  have := h.nonneg hp (hl.2 i hi)
  simp
  omega

/-! Links. -/
/-- Whether last and f can't be linked; both are frames of a valid space. -/
def lnkB (F : Nat → Fr) (n l f : Nat) : Bool := decide ((F l).ow = -1) || decide ((F l).st ≠ (F f).st) || decide ((F l).nx ≠ -1) || fol F n f || decide (l ∈ chL F n f)
noncomputable def lnkE (s : Int) (nw : Nat) (wd : Nat → Int) (n : Nat) (F : Nat → Fr) (last f : Int) : Int :=
  if validB s nw wd n F = false then 1 else if inB n last = false ∨ inB n f = false then 2 else if lnkB F n last.toNat f.toNat = true then 5 else 0
noncomputable def lstE (s : Int) (nw : Nat) (wd : Nat → Int) (n : Nat) (F : Nat → Fr) (first : Int) : Int :=
  if validB s nw wd n F = false then 1 else if inB n first = false then 2 else if (F first.toNat).ow = -1 then 5 else 0
noncomputable def lstL (s : Int) (nw : Nat) (wd : Nat → Int) (n : Nat) (F : Nat → Fr) (first : Int) : List Nat := if lstE s nw wd n F first = 0 then chL F n first.toNat else []
/-- Whether a is an address of nw words. -/
def adB (nw : Nat) (a : Int) : Bool := decide (0 ≤ a) && decide (a < nw)
noncomputable def stpE (s : Int) (nw : Nat) (wd : Nat → Int) (n : Nat) (F : Nat → Fr) (a k : Int) : Int :=
  if validB s nw wd n F = false then 1 else if adB nw a = false ∨ k < 0 then 2 else if (F (a / 2 ^ s.toNat).toNat).ow = -1 then 5
    else if ((chL F n (a / 2 ^ s.toNat).toNat).length : Int) * 2 ^ s.toNat ≤ a % 2 ^ s.toNat + k then 2 else 0
noncomputable def stpV (s : Int) (nw : Nat) (wd : Nat → Int) (n : Nat) (F : Nat → Fr) (a k : Int) : Int :=
  if stpE s nw wd n F a k = 0 then addrP F s.toNat (a / 2 ^ s.toNat) (a % 2 ^ s.toNat + k).toNat else 0
noncomputable def idxE (s : Int) (nw : Nat) (wd : Nat → Int) (n : Nat) (F : Nat → Fr) (first a : Int) : Int :=
  if validB s nw wd n F = false then 1 else if inB n first = false ∨ adB nw a = false then 2 else if (F first.toNat).ow = -1 then 5
    else if (a / 2 ^ s.toNat).toNat ∈ chL F n first.toNat then 0 else 2
noncomputable def idxV (s : Int) (nw : Nat) (wd : Nat → Int) (n : Nat) (F : Nat → Fr) (first a : Int) : Int :=
  if idxE s nw wd n F first a = 0 then (((chL F n first.toNat).idxOf (a / 2 ^ s.toNat).toNat : Nat) : Int) * 2 ^ s.toNat + a % 2 ^ s.toNat else 0
end
end Go.Proofs.Ytjkbjbikofindaa
