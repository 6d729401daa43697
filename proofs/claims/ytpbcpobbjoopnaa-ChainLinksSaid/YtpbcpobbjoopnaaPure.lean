/-
  Plain mathematics of layer 3: tables of frames, links that make chains. Nothing here speaks of the program.
-/
namespace Go.Proofs.Ytpbcpobbjoopnaa

/-- An entry of the frame table. -/
structure Fr where
  ow : Int
  st : Int
  nx : Int
def frFree : Fr := ⟨-1, -1, -1⟩
def frZero : Fr := ⟨0, 0, 0⟩

/-- Whether an owner and a stamp belong together. -/
def stB (st ow : Int) : Bool := decide (0 ≤ ow ∧ ow ≤ 4294967295 ∧ (st = ow ∨ st = ow + 4294967296 ∨ st = ow + 8589934592 ∨ st = ow + 12884901888))
theorem stB_yes {st ow : Int} (h : stB st ow = true) : 0 ≤ ow ∧ ow ≤ 4294967295 ∧ (st = ow ∨ st = ow + 4294967296 ∨ st = ow + 8589934592 ∨ st = ow + 12884901888) := of_decide_eq_true h
theorem stB_of {st ow : Int} (h : 0 ≤ ow ∧ ow ≤ 4294967295 ∧ (st = ow ∨ st = ow + 4294967296 ∨ st = ow + 8589934592 ∨ st = ow + 12884901888)) : true = stB st ow := (decide_eq_true h).symm
theorem stB_not {st ow : Int} (h : ¬ (0 ≤ ow ∧ ow ≤ 4294967295 ∧ (st = ow ∨ st = ow + 4294967296 ∨ st = ow + 8589934592 ∨ st = ow + 12884901888))) : false = stB st ow := (decide_eq_false h).symm

/-- Whether a shift is permitted. -/
def shB (s : Int) : Bool := decide (3 ≤ s) && decide (s ≤ 8)
theorem shB_yes {s : Int} (h : shB s = true) : 3 ≤ s ∧ s ≤ 8 := by simpa [shB] using h

def nfB (n : Int) : Bool := decide (2 ≤ n) && decide (n ≤ 64)
def inB (n : Nat) (f : Int) : Bool := decide (0 ≤ f) && decide (f < n)
theorem inB_yes {n : Nat} {f : Int} (h : inB n f = true) : 0 ≤ f ∧ f < n := by simpa [inB] using h
/-- Whether two entries are one. -/
def frB (f g : Fr) : Bool := (f.ow == g.ow) && ((f.st == g.st) && (f.nx == g.nx))
theorem frB_yes {f g : Fr} (h : frB f g = true) : f = g := by
  obtain ⟨a, b, c⟩ := f
  obtain ⟨a', b', c'⟩ := g
  simp [frB] at h
  obtain ⟨rfl, rfl, rfl⟩ := h
  rfl
theorem frB_self (f : Fr) : frB f f = true := by simp [frB]

/-- Whether the words of frame f are 0. -/
def zeroB (wd : Nat → Int) (k f : Nat) : Bool := decide (∀ a, a < 2 ^ k → wd (f * 2 ^ k + a) = 0)

/-- Whether frame f is owned, and its link is well. -/
def ownB (n : Nat) (F : Nat → Fr) (f : Nat) : Bool := stB (F f).st (F f).ow && (decide ((F f).nx = -1) || (inB n (F f).nx && decide ((F f).nx ≠ f) && decide ((F (F f).nx.toNat).ow = (F f).ow) && decide ((F (F f).nx.toNat).st = (F f).st)))


/-- A Nodup list of numbers below n has at most n elements, and all of them if it has n. -/
theorem nodup_le : ∀ (n : Nat) (l : List Nat), l.Nodup → (∀ x ∈ l, x < n) → l.length ≤ n ∧ (l.length = n → ∀ x, x < n → x ∈ l)
  | 0, l, _, h => by
    rcases l with _ | ⟨a, l⟩
    · exact ⟨Nat.le_refl _, fun _ x hx => absurd hx (by omega)⟩
    · exact absurd (h a (by simp)) (by omega)
  | n + 1, l, hd, h => by
    by_cases hm : n ∈ l
    · have h1 : (l.erase n).Nodup := hd.erase n
      have h2 : ∀ x ∈ l.erase n, x < n := by
        intro x hx
        have hx' := (hd.mem_erase_iff.1 hx)
        have := h x hx'.2
        omega
      obtain ⟨i1, i2⟩ := nodup_le n (l.erase n) h1 h2
      have hl : (l.erase n).length = l.length - 1 := List.length_erase_of_mem hm
      have hp : 0 < l.length := List.length_pos_of_mem hm
      refine ⟨by omega, fun he x hx => ?_⟩
      by_cases e : x = n
      · subst e; exact hm
      · exact List.mem_of_mem_erase (i2 (by omega) x (by omega))
    · have h2 : ∀ x ∈ l, x < n := by
        intro x hx
        have h3 := h x hx
        have : x ≠ n := fun e => hm (e ▸ hx)
        omega
      obtain ⟨i1, i2⟩ := nodup_le n l hd h2
      exact ⟨by omega, fun he => by omega⟩

section
variable (F : Nat → Fr)

/-- The frame that stands i links behind f; -1 behind the last one. -/
def iter : Nat → Int → Int
  | 0, f => f
  | i + 1, f => if f = -1 then -1 else iter i (F f.toNat).nx

theorem iter_none : ∀ i, iter F i (-1) = -1
  | 0 => rfl
  | _ + 1 => by simp [iter]
theorem iter_add : ∀ (i j : Nat) (f : Int), iter F (i + j) f = iter F j (iter F i f)
  | 0, j, f => by simp [iter]
  | i + 1, j, f => by
    rw [show i + 1 + j = (i + j) + 1 by omega]
    by_cases h : f = -1
    · subst h; rw [iter_none, iter_none, iter_none]
    · simp only [iter, if_neg h]
      exact iter_add i j _
theorem iter_succ (i : Nat) (f : Int) : iter F (i + 1) f = if iter F i f = -1 then -1 else (F (iter F i f).toNat).nx := by
  rw [iter_add]
  simp only [iter]
theorem iter_stay {i j : Nat} {f : Int} (h : iter F i f = -1) (hij : i ≤ j) : iter F j f = -1 := by
  obtain ⟨d, rfl⟩ := Nat.le.dest hij
  rw [iter_add, h, iter_none]

/-- All links of n frames stay among them. -/
def Inside (n : Nat) : Prop := ∀ f, f < n → (F f).nx = -1 ∨ (0 ≤ (F f).nx ∧ (F f).nx < n)
/-- No frame is the next one of two. -/
def Single (n : Nat) : Prop := ∀ f g, f < n → g < n → (F f).nx = (F g).nx → (F f).nx ≠ -1 → f = g
/-- Every chain ends. -/
def Ends (n : Nat) : Prop := ∀ f : Nat, f < n → iter F (n + 1) f = -1
/-- Whether one of the first t frames has the next frame g. -/
def fol (t : Nat) (g : Int) : Bool := (List.range t).any fun f => (F f).nx == g
theorem fol_iff (t : Nat) (g : Int) : fol F t g = true ↔ ∃ f, f < t ∧ (F f).nx = g := by
  simp [fol]
theorem fol_succ (t : Nat) (g : Int) : fol F (t + 1) g = (fol F t g || ((F t).nx == g)) := by
  simp [fol, List.range_succ]
theorem fol_zero (g : Int) : fol F 0 g = false := rfl

variable {F} {n : Nat}

theorem iter_in (hi : Inside F n) {f : Nat} (hf : f < n) (i : Nat) : iter F i f = -1 ∨ (0 ≤ iter F i f ∧ iter F i f < n) := by
  induction i with
  | zero => right; simp only [iter]; omega
  | succ i ih =>
    rw [iter_succ]
    rcases ih with h | ⟨h1, h2⟩
    · left; rw [if_pos h]
    · rw [if_neg (by omega)]
      exact hi _ (by omega)

/-- Two places on chains that are one frame: the earlier one's beginning lies on the other chain. -/
theorem iter_back (hi : Inside F n) (hs : Single F n) {f g : Nat} (hf : f < n) (hg : g < n) : ∀ (i j : Nat), i ≤ j → iter F i f = iter F j g → iter F i f ≠ -1 → (f : Int) = iter F (j - i) g
  | 0, j, _, h, _ => by simpa [iter] using h
  | i + 1, j + 1, hij, h, hne => by
    rw [iter_succ] at h hne
    rw [iter_succ] at h
    have a1 := iter_in hi hf i
    have a2 := iter_in hi hg j
    by_cases e1 : iter F i f = -1
    · rw [if_pos e1] at hne
      exact absurd rfl hne
    · rw [if_neg e1] at h hne
      by_cases e2 : iter F j g = -1
      · rw [if_pos e2] at h
        exact absurd h hne
      · rw [if_neg e2] at h
        have e3 := hs (iter F i f).toNat (iter F j g).toNat (by omega) (by omega) h hne
        have e4 : iter F i f = iter F j g := by omega
        have := iter_back hi hs hf hg i j (by omega) e4 e1
        rw [this, show j + 1 - (i + 1) = j - i by omega]

/-- A frame that nothing leads to stands at the beginning of its chain alone. -/
theorem start_only {s g j : Nat} (hi : Inside F n) (hg : g < n) (hn : fol F n s = false) (h : (s : Int) = iter F j g) : j = 0 := by
  rcases j with _ | j
  · rfl
  · rw [iter_succ] at h
    have a := iter_in hi hg j
    by_cases e : iter F j g = -1
    · rw [if_pos e] at h; omega
    · rw [if_neg e] at h
      have : fol F n s = true := (fol_iff F n s).2 ⟨(iter F j g).toNat, by omega, h.symm⟩
      rw [hn] at this
      cases this

theorem start_same (hi : Inside F n) (hs : Single F n) {s s' : Nat} (h1 : s < n) (h2 : s' < n) (n1 : fol F n s = false) (n2 : fol F n s' = false) {i j : Nat} (h : iter F i s = iter F j s') (hne : iter F i s ≠ -1) : i = j ∧ s = s' := by
  rcases Nat.le_total i j with hij | hij
  · have h3 := iter_back hi hs h1 h2 i j hij h hne
    have h4 := start_only hi h2 n1 h3
    rw [h4] at h3
    simp only [iter] at h3
    exact ⟨by omega, by omega⟩
  · have h3 := iter_back hi hs h2 h1 j i hij h.symm (by rw [← h]; exact hne)
    have h4 := start_only hi h1 n2 h3
    rw [h4] at h3
    simp only [iter] at h3
    exact ⟨by omega, by omega⟩

/-- The frames of the chain from s, as a list of at most m. -/
def path (F : Nat → Fr) : Nat → Int → List Nat
  | 0, _ => []
  | m + 1, f => if f = -1 then [] else f.toNat :: path F m (F f.toNat).nx
theorem path_none (m : Nat) : path F m (-1) = [] := by cases m <;> simp [path]
theorem mem_path : ∀ (m : Nat) (f : Int), 0 ≤ f ∨ f = -1 → (∀ i, iter F i f = -1 ∨ 0 ≤ iter F i f) → ∀ x, x ∈ path F m f ↔ ∃ i, i < m ∧ iter F i f = (x : Int)
  | 0, f, _, _, x => by simp [path]
  | m + 1, f, h0, hr, x => by
    by_cases e : f = -1
    · subst e
      rw [path_none]
      simp only [List.not_mem_nil, false_iff]
      rintro ⟨i, _, h⟩
      rw [iter_none] at h
      omega
    · have f0 : 0 ≤ f := by omega
      have hr1 := hr 1
      simp only [iter, if_neg e] at hr1
      have hr' : ∀ i, iter F i (F f.toNat).nx = -1 ∨ 0 ≤ iter F i (F f.toNat).nx := by
        intro i
        have := hr (i + 1)
        simpa only [iter, if_neg e] using this
      have ih := mem_path m (F f.toNat).nx (by omega) hr' x
      simp only [path, if_neg e, List.mem_cons, ih]
      constructor
      · rintro (h | ⟨i, hi, h⟩)
        · exact ⟨0, by omega, by simp only [iter]; omega⟩
        · exact ⟨i + 1, by omega, by simpa only [iter, if_neg e] using h⟩
      · rintro ⟨i, hi, h⟩
        rcases i with _ | i
        · left; simp only [iter] at h; omega
        · right; exact ⟨i, by omega, by simpa only [iter, if_neg e] using h⟩

/-- A chain that nothing leads to ends after n links. -/
theorem start_ends (hi : Inside F n) (hs : Single F n) {s : Nat} (h1 : s < n) (n1 : fol F n s = false) : iter F n s = -1 := by
  rcases iter_in hi h1 n with h | h
  · exact h
  · exfalso
    have hne : ∀ i, i ≤ n → iter F i s ≠ -1 := fun i hin e => by have := iter_stay F e hin; omega
    have hd : ((List.range (n + 1)).map fun i => (iter F i s).toNat).Nodup := by
      rw [List.nodup_iff_pairwise_ne, List.pairwise_map]
      refine (List.nodup_iff_pairwise_ne.1 List.nodup_range).imp_of_mem ?_
      intro i j ha hb hij e
      simp at ha hb
      have a1 := iter_in hi h1 i
      have a2 := iter_in hi h1 j
      have b1 := hne i (by omega)
      have b2 := hne j (by omega)
      exact hij (start_same hi hs h1 h1 n1 n1 (i := i) (j := j) (by omega) b1).1
    have := (nodup_le n _ hd (by
      intro x hx
      simp only [List.mem_map, List.mem_range] at hx
      obtain ⟨i, hin, rfl⟩ := hx
      have a1 := iter_in hi h1 i
      have b1 := hne i (by omega)
      omega)).1
    simp at this
    omega

theorem path_length : ∀ (m : Nat) (f : Int) (i : Nat), i ≤ m → iter F i f = -1 → (∀ j, j < i → iter F j f ≠ -1) → (path F m f).length = i
  | 0, f, i, h, _, _ => by simp only [path, List.length_nil]; omega
  | m + 1, f, 0, _, h, _ => by simp only [iter] at h; subst h; rw [path_none]; rfl
  | m + 1, f, i + 1, h, h1, h2 => by
    have e : f ≠ -1 := by simpa only [iter] using h2 0 (by omega)
    simp only [iter, if_neg e] at h1
    simp only [path, if_neg e, List.length_cons]
    rw [path_length m _ i (by omega) h1 (fun j hj => by simpa only [iter, if_neg e] using h2 (j + 1) (by omega))]

theorem path_nodup (hi : Inside F n) (hs : Single F n) {s : Nat} (h1 : s < n) (n1 : fol F n s = false) : ∀ (m i : Nat), (path F m (iter F i s)).Nodup
  | 0, _ => by simp [path]
  | m + 1, i => by
    by_cases e : iter F i s = -1
    · rw [e, path_none]; simp
    · have a := iter_in hi h1 i
      simp only [path, if_neg e]
      have e2 : (F (iter F i s).toNat).nx = iter F (i + 1) s := by rw [iter_succ, if_neg e]
      rw [e2, List.nodup_cons]
      refine ⟨?_, path_nodup hi hs h1 n1 m (i + 1)⟩
      rw [mem_path m _ (by have := iter_in hi h1 (i + 1); omega) (fun j => by rw [← iter_add]; have := iter_in hi h1 (i + 1 + j); omega)]
      rintro ⟨j, _, hj⟩
      rw [← iter_add] at hj
      have := (start_same hi hs h1 h1 n1 n1 (i := i + 1 + j) (j := i) (by omega) (by omega)).1
      omega

/-- All frames on chains that begin with one of the first t frames. -/
def cov (F : Nat → Fr) (n t : Nat) : List Nat := (List.range t).flatMap fun (s : Nat) => if fol F n s then [] else path F n s
theorem cov_zero : cov F n 0 = [] := rfl
theorem cov_succ (t : Nat) : cov F n (t + 1) = cov F n t ++ (if fol F n t then [] else path F n t) := by
  simp [cov, List.range_succ]
theorem cov_skip {t : Nat} (h : fol F n t = true) : (cov F n (t + 1)).length = (cov F n t).length := by
  rw [cov_succ, h]; simp
theorem cov_add {t i : Nat} (h : fol F n t = false) (hin : i ≤ n) (h1 : iter F i t = -1) (h2 : ∀ j, j < i → iter F j t ≠ -1) : (cov F n (t + 1)).length = (cov F n t).length + i := by
  rw [cov_succ, h]
  simp only [Bool.false_eq_true, if_false, List.length_append]
  rw [path_length n t i hin h1 h2]

theorem mem_cov (hi : Inside F n) {t : Nat} (ht : t ≤ n) (x : Nat) : x ∈ cov F n t ↔ ∃ s i, s < t ∧ fol F n s = false ∧ i < n ∧ iter F i s = (x : Int) := by
  simp only [cov, List.mem_flatMap, List.mem_range]
  constructor
  · rintro ⟨s, hs, hx⟩
    cases hf : fol F n s
    · rw [hf] at hx
      simp only [Bool.false_eq_true, if_false] at hx
      obtain ⟨i, h1, h2⟩ := (mem_path n s (by omega) (fun i => by have := iter_in hi (show s < n by omega) i; omega) x).1 hx
      exact ⟨s, i, hs, hf, h1, h2⟩
    · rw [hf] at hx
      simp at hx
  · rintro ⟨s, i, hs, hf, h1, h2⟩
    refine ⟨s, hs, ?_⟩
    rw [hf]
    simp only [Bool.false_eq_true, if_false]
    exact (mem_path n s (by omega) (fun i => by have := iter_in hi (show s < n by omega) i; omega) x).2 ⟨i, h1, h2⟩

theorem cov_nodup (hi : Inside F n) (hs : Single F n) : ∀ t, t ≤ n → (cov F n t).Nodup
  | 0, _ => by rw [cov_zero]; simp
  | t + 1, ht => by
    have ih := cov_nodup hi hs t (by omega)
    rw [cov_succ]
    cases hf : fol F n t
    · simp only [Bool.false_eq_true, if_false]
      rw [List.nodup_append]
      refine ⟨ih, ?_, ?_⟩
      · have := path_nodup hi hs (show t < n by omega) hf n 0
        simpa only [iter] using this
      · intro a ha b hb e
        subst e
        obtain ⟨s, i, h1, h2, h3, h4⟩ := (mem_cov hi (by omega) a).1 ha
        obtain ⟨j, h5, h6⟩ := (mem_path n t (by omega) (fun i => by have := iter_in hi (show t < n by omega) i; omega) a).1 hb
        have := (start_same hi hs (show s < n by omega) (show t < n by omega) h2 hf (i := i) (j := j) (by omega) (by omega)).2
        omega
    · simp [ih]

theorem subset_le : ∀ (l m : List Nat), l.Nodup → (∀ x ∈ l, x ∈ m) → l.length ≤ m.length
  | [], _, _, _ => by simp
  | a :: l, m, hd, h => by
    rw [List.nodup_cons] at hd
    have ha := h a (by simp)
    have := subset_le l (m.erase a) hd.2 (fun x hx => (List.mem_erase_of_ne (fun e => hd.1 (by rw [← e]; exact hx))).2 (h x (by simp [hx])))
    rw [List.length_erase_of_mem ha] at this
    have := List.length_pos_of_mem ha
    simp
    omega

theorem ends_all (hi : Inside F n) (hs : Single F n) (he : Ends F n) : ∀ (d j : Nat), j + d = n + 1 → ∀ f, f < n → iter F j f ≠ -1 → f ∈ cov F n n
  | 0, j, hj, f, hf, h => absurd (by rw [show j = n + 1 by omega]; exact he f hf) h
  | d + 1, j, hj, f, hf, h => by
    rw [mem_cov hi (Nat.le_refl n)]
    cases hfo : fol F n f
    · exact ⟨f, 0, hf, hfo, by omega, rfl⟩
    · obtain ⟨p, hp, hx⟩ := (fol_iff F n f).1 hfo
      have h2 : iter F (j + 1) p ≠ -1 := by
        rw [show j + 1 = 1 + j by omega, iter_add]
        simp only [iter]
        rw [if_neg (by omega), Int.toNat_natCast, hx]
        exact h
      obtain ⟨s, i, a1, a2, a3, a4⟩ := (mem_cov hi (Nat.le_refl n) p).1 (ends_all hi hs he d (j + 1) (by omega) p hp h2)
      have a5 : iter F (i + 1) s = (f : Int) := by
        rw [iter_succ, if_neg (by omega), a4]
        simpa using hx
      refine ⟨s, i + 1, a1, a2, ?_, a5⟩
      have a6 := start_ends hi hs a1 a2
      rcases Nat.lt_or_ge (i + 1) n with h7 | h7
      · exact h7
      · exfalso
        have := iter_stay F a6 h7
        omega

/-- All chains end just where those that nothing leads to have all frames. -/
theorem ends_iff (hi : Inside F n) (hs : Single F n) : (cov F n n).length = n ↔ Ends F n := by
  have hd := cov_nodup hi hs n (Nat.le_refl n)
  have hlt : ∀ x ∈ cov F n n, x < n := by
    intro x hx
    obtain ⟨s, i, a1, _, _, a4⟩ := (mem_cov hi (Nat.le_refl n) x).1 hx
    have := iter_in hi a1 i
    omega
  obtain ⟨h1, h2⟩ := nodup_le n _ hd hlt
  constructor
  · intro hl f hf
    obtain ⟨s, i, a1, a2, _, a4⟩ := (mem_cov hi (Nat.le_refl n) f).1 (h2 hl f hf)
    rw [← a4, ← iter_add]
    exact iter_stay F (start_ends hi hs a1 a2) (by omega)
  · intro he
    have := subset_le (List.range n) (cov F n n) List.nodup_range (fun x hx => ends_all hi hs he (n + 1) 0 (by omega) x (by simpa using hx) (by simp only [iter]; omega))
    simp at this
    omega

theorem cov_le (hi : Inside F n) (hs : Single F n) {t : Nat} (ht : t ≤ n) : (cov F n t).length ≤ n := by
  refine (nodup_le n _ (cov_nodup hi hs t ht) ?_).1
  intro x hx
  obtain ⟨s, i, a1, _, _, a4⟩ := (mem_cov hi ht x).1 hx
  have := iter_in hi (show s < n by omega) i
  omega

/-- No two of the first t frames have one next frame. -/
def SingleTo (F : Nat → Fr) (t : Nat) : Prop := ∀ f g, f < t → g < t → (F f).nx = (F g).nx → (F f).nx ≠ -1 → f = g
theorem singleTo_zero : SingleTo F 0 := fun f g h => absurd h (by omega)
theorem singleTo_none {t : Nat} (h : SingleTo F t) (hx : (F t).nx = -1) : SingleTo F (t + 1) := by
  intro f g hf hg he hn
  rcases (show f < t ∨ f = t by omega) with h1 | rfl
  · rcases (show g < t ∨ g = t by omega) with h2 | rfl
    · exact h f g h1 h2 he hn
    · exact absurd (he.trans hx) hn
  · exact absurd hx hn
theorem singleTo_new {t : Nat} (h : SingleTo F t) (hx : fol F t (F t).nx = false) : SingleTo F (t + 1) := by
  have hno : ∀ f, f < t → (F f).nx ≠ (F t).nx := by
    intro f hf e
    have := (fol_iff F t (F t).nx).2 ⟨f, hf, e⟩
    rw [hx] at this
    cases this
  intro f g hf hg he hn
  rcases (show f < t ∨ f = t by omega) with h1 | rfl
  · rcases (show g < t ∨ g = t by omega) with h2 | rfl
    · exact h f g h1 h2 he hn
    · exact absurd he (hno f h1)
  · rcases (show g < f ∨ g = f by omega) with h2 | rfl
    · exact absurd he.symm (hno g h2)
    · rfl
theorem single_not {t : Nat} (ht : t < n) (hx : fol F t (F t).nx = true) (hn : (F t).nx ≠ -1) : ¬ Single F n := by
  intro h
  obtain ⟨f, hf, e⟩ := (fol_iff F t (F t).nx).1 hx
  have := h f t (by omega) ht e (by rw [e]; exact hn)
  omega
theorem fol_none {t : Nat} (hx : (F t).nx = -1) (j : Nat) : fol F (t + 1) j = fol F t j := by
  rw [fol_succ, hx]
  have : ((-1 : Int) == (j : Int)) = false := by simp
  rw [this, Bool.or_false]
theorem fol_set {t y : Nat} (hx : (F t).nx = y) (j : Nat) : fol F (t + 1) j = if j = y then true else fol F t j := by
  rw [fol_succ, hx]
  by_cases e : j = y
  · subst e; simp
  · rw [if_neg e]
    have : ((y : Int) == (j : Int)) = false := by simp; omega
    rw [this, Bool.or_false]

/-- Whether no frame is the next one of two, and every chain ends. -/
noncomputable def linkB (F : Nat → Fr) (n : Nat) : Bool := @decide (Single F n ∧ Ends F n) (Classical.propDecidable _)
theorem linkB_yes (h : Single F n ∧ Ends F n) : true = linkB F n := (@decide_eq_true _ (Classical.propDecidable _) h).symm
theorem linkB_no (h : ¬ (Single F n ∧ Ends F n)) : false = linkB F n := (@decide_eq_false _ (Classical.propDecidable _) h).symm
theorem linkB_of (h : linkB F n = true) : Single F n ∧ Ends F n := @of_decide_eq_true _ (Classical.propDecidable _) h
theorem linkB_not (h : linkB F n = false) : ¬ (Single F n ∧ Ends F n) := fun k => by rw [← linkB_yes k] at h; cases h
end

/-- Whether a frame is free, with its words 0, or owned, with its link well. -/
def frameB (wd : Nat → Int) (k n : Nat) (F : Nat → Fr) (f : Nat) : Bool := (frB (F f) frFree && zeroB wd k f) || ownB n F f

/-- A valid space: chapter 3. -/
def ValidP (s : Int) (nw : Nat) (wd : Nat → Int) (n : Nat) (F : Nat → Fr) : Prop :=
  shB s = true ∧ nfB n = true ∧ nw = n * 2 ^ s.toNat ∧ (∀ f, f < n → frameB wd s.toNat n F f = true) ∧ Single F n ∧ Ends F n
noncomputable def validB (s : Int) (nw : Nat) (wd : Nat → Int) (n : Nat) (F : Nat → Fr) : Bool := @decide (ValidP s nw wd n F) (Classical.propDecidable _)
section
variable {s : Int} {nw : Nat} {wd : Nat → Int} {n : Nat} {F : Nat → Fr}
theorem validB_yes (h : ValidP s nw wd n F) : validB s nw wd n F = true := @decide_eq_true _ (Classical.propDecidable _) h
theorem validB_no (h : ¬ ValidP s nw wd n F) : validB s nw wd n F = false := @decide_eq_false _ (Classical.propDecidable _) h
theorem validB_of (h : validB s nw wd n F = true) : ValidP s nw wd n F := @of_decide_eq_true _ (Classical.propDecidable _) h
theorem validB_not (h : validB s nw wd n F = false) : ¬ ValidP s nw wd n F := fun k => by rw [validB_yes k] at h; cases h

theorem nfB_yes {n : Int} (h : nfB n = true) : 2 ≤ n ∧ n ≤ 64 := by simpa [nfB] using h
theorem ownB_yes {f : Nat} (h : ownB n F f = true) : stB (F f).st (F f).ow = true ∧ ((F f).nx = -1 ∨ ∃ g : Nat, (F f).nx = g ∧ g < n ∧ g ≠ f ∧ (F g).ow = (F f).ow ∧ (F g).st = (F f).st) := by
  simp only [ownB, Bool.and_eq_true, Bool.or_eq_true, decide_eq_true_eq] at h
  refine ⟨h.1, ?_⟩
  rcases h.2 with h2 | ⟨⟨⟨h2, h3⟩, h4⟩, h5⟩
  · exact .inl h2
  · obtain ⟨a, b⟩ := inB_yes h2
    obtain ⟨g, hg⟩ : ∃ g : Nat, (F f).nx = g := ⟨(F f).nx.toNat, by omega⟩
    rw [hg] at h3 h4 h5 b
    rw [Int.toNat_natCast] at h4 h5
    exact .inr ⟨g, hg, by omega, by omega, h4, h5⟩
theorem ownB_of {f : Nat} (h : stB (F f).st (F f).ow = true) (h2 : (F f).nx = -1 ∨ ∃ g : Nat, (F f).nx = g ∧ g < n ∧ g ≠ f ∧ (F g).ow = (F f).ow ∧ (F g).st = (F f).st) : ownB n F f = true := by
  simp only [ownB, Bool.and_eq_true, Bool.or_eq_true, decide_eq_true_eq]
  refine ⟨h, ?_⟩
  rcases h2 with h2 | ⟨g, h2, h3, h4, h5, h6⟩
  · exact .inl h2
  · right
    rw [h2, Int.toNat_natCast]
    exact ⟨⟨⟨by simp [inB]; omega, by omega⟩, h5⟩, h6⟩
theorem ownB_no {f : Nat} (h : ¬ (stB (F f).st (F f).ow = true ∧ ((F f).nx = -1 ∨ ∃ g : Nat, (F f).nx = g ∧ g < n ∧ g ≠ f ∧ (F g).ow = (F f).ow ∧ (F g).st = (F f).st))) : ownB n F f = false := by
  rcases ho : ownB n F f with _ | _
  · rfl
  · exact absurd (ownB_yes ho) h
theorem frB_no {f : Fr} (h : ¬ (f.ow = -1 ∧ f.st = -1 ∧ f.nx = -1)) : frB f frFree = false := by
  rcases hf : frB f frFree with _ | _
  · rfl
  · have := frB_yes hf
    subst this
    exact absurd ⟨rfl, rfl, rfl⟩ h
theorem frameB_no {k f : Nat} (h1 : (frB (F f) frFree && zeroB wd k f) = false) (h2 : ownB n F f = false) : frameB wd k n F f = false := by
  simp only [frameB, h1, h2, Bool.or_self]
theorem frameB_own {k f : Nat} (h2 : ownB n F f = true) : frameB wd k n F f = true := by
  simp [frameB, h2]
theorem frameB_free {k f : Nat} (h1 : F f = frFree) (h2 : zeroB wd k f = true) : frameB wd k n F f = true := by
  simp [frameB, h1, h2, frB_self]
theorem frameB_cases {k f : Nat} (h : frameB wd k n F f = true) : (F f = frFree ∧ zeroB wd k f = true) ∨ ownB n F f = true := by
  simp only [frameB, Bool.or_eq_true, Bool.and_eq_true] at h
  rcases h with ⟨h1, h2⟩ | h
  · exact .inl ⟨frB_yes h1, h2⟩
  · exact .inr h
theorem inside_of {k : Nat} (h : ∀ f, f < n → frameB wd k n F f = true) : Inside F n := by
  intro f hf
  rcases frameB_cases (h f hf) with ⟨h1, _⟩ | h1
  · left; rw [h1]; rfl
  · rcases (ownB_yes h1).2 with h2 | ⟨g, h2, h3, _⟩
    · exact .inl h2
    · right; omega
end

theorem valid_fresh {k n : Nat} (h1 : 3 ≤ k) (h2 : k ≤ 8) (h3 : 2 ≤ n) (h4 : n ≤ 64) : ValidP k (n * 2 ^ k) (fun _ => 0) n (fun _ => frFree) := by
  refine ⟨by simp [shB]; omega, by simp [nfB]; omega, by rw [Int.toNat_natCast], fun f hf => ?_, fun f g _ _ _ h => absurd rfl h, fun f hf => ?_⟩
  · simp [frameB, frB_self, zeroB]
  · have : iter (fun _ => frFree) 1 (f : Int) = -1 := by simp [iter, frFree]
    exact iter_stay _ this (by omega)
end Go.Proofs.Ytpbcpobbjoopnaa
