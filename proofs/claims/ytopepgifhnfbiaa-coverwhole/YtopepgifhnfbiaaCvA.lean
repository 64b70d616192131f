/- Plain arithmetic of a row of covers that is reckoned side by side: which sides a line crosses, which way, up to which place a side lies beyond; the sums that come of it are how often polys go round each place. No condition but those that the theorems name; no program is named here. -/
import Derived.Test.YtopepgifhnfbiaaCvMath
import Derived.Test.YtopepgifhnfbiaaBxMath
namespace Go.Proofs.Ytopepgifhnfbiaa
namespace M

/-- Which way a side is crossed by the line y. -/
def wayP (a b : Pt) (y : Int) : Int := if a.y ≤ y ∧ y < b.y then 1 else if b.y ≤ y ∧ y < a.y then -1 else 0
theorem wayP_in (a b : Pt) (y : Int) : -1 ≤ wayP a b y ∧ wayP a b y ≤ 1 := by unfold wayP; split <;> (try split) <;> omega
/-- Does the line y meet the side beyond x? -/
def bydP (a b : Pt) (x y : Int) : Bool := (decide (0 < wayP a b y) && decide (0 < sideW a b x y)) || (decide (wayP a b y < 0) && decide (sideW a b x y < 0))
theorem byd_iff {a b : Pt} {x y : Int} : bydP a b x y = true ↔ (a.y ≤ y ∧ y < b.y ∧ 0 < sideW a b x y) ∨ (b.y ≤ y ∧ y < a.y ∧ sideW a b x y < 0) := by
  unfold bydP wayP
  by_cases h1 : a.y ≤ y ∧ y < b.y
  · rw [if_pos h1]; simp; omega
  · rw [if_neg h1]
    by_cases h2 : b.y ≤ y ∧ y < a.y
    · rw [if_pos h2]; simp; omega
    · rw [if_neg h2]; simp; omega
theorem w1_way (x y : Int) (a b : Pt) : w1 x y a b = if bydP a b x y = true then wayP a b y else 0 := by
  unfold w1
  by_cases h1 : a.y ≤ y ∧ y < b.y ∧ 0 < sideW a b x y
  · rw [if_pos h1, if_pos (byd_iff.2 (Or.inl h1))]; unfold wayP; rw [if_pos ⟨h1.1, h1.2.1⟩]
  · rw [if_neg h1]
    by_cases h2 : b.y ≤ y ∧ y < a.y ∧ sideW a b x y < 0
    · rw [if_pos h2, if_pos (byd_iff.2 (Or.inr h2))]; unfold wayP; rw [if_neg (by omega), if_pos ⟨h2.1, h2.2.1⟩]
    · rw [if_neg h2, if_neg (fun h => (byd_iff.1 h).elim h1 h2)]
/-- A side that lies beyond a place lies beyond those ahead of it. -/
theorem byd_back {a b : Pt} {x x' y : Int} (hx : x ≤ x') (h : bydP a b x' y = true) : bydP a b x y = true := by
  rw [byd_iff] at h ⊢
  unfold sideW at *
  rcases h with ⟨h1, h2, h3⟩ | ⟨h1, h2, h3⟩
  · have := Int.mul_le_mul_of_nonneg_right (show x - a.x ≤ x' - a.x by omega) (show 0 ≤ b.y - a.y by omega)
    exact Or.inl ⟨h1, h2, by omega⟩
  · have := Int.mul_le_mul_of_nonpos_right (show x - a.x ≤ x' - a.x by omega) (show b.y - a.y ≤ 0 by omega)
    exact Or.inr ⟨h1, h2, by omega⟩
/-- A side right of a place lies beyond it, if the line crosses it; one left of it doesn't. -/
theorem sideW_two (a b : Pt) (x y : Int) : sideW a b x y = (b.x - x) * (y - a.y) + (a.x - x) * (b.y - y) := by unfold sideW; grind
theorem byd_right {a b : Pt} {x y : Int} (ha : x < a.x) (hb : x < b.x) (hw : wayP a b y ≠ 0) : bydP a b x y = true := by
  rw [byd_iff, sideW_two]
  unfold wayP at hw
  by_cases h1 : a.y ≤ y ∧ y < b.y
  · have p1 := Int.mul_nonneg (show 0 ≤ b.x - x by omega) (show 0 ≤ y - a.y by omega)
    have p2 := Int.mul_pos (show 0 < a.x - x by omega) (show 0 < b.y - y by omega)
    exact Or.inl ⟨h1.1, h1.2, by omega⟩
  · rw [if_neg h1] at hw
    by_cases h2 : b.y ≤ y ∧ y < a.y
    · have p1 := Int.mul_neg_of_pos_of_neg (show 0 < b.x - x by omega) (show y - a.y < 0 by omega)
      have p2 := Int.mul_nonpos_of_nonneg_of_nonpos (show 0 ≤ a.x - x by omega) (show b.y - y ≤ 0 by omega)
      exact Or.inr ⟨h2.1, h2.2, by omega⟩
    · rw [if_neg h2] at hw; omega
theorem byd_left {a b : Pt} {x y : Int} (ha : a.x < x) (hb : b.x < x) : bydP a b x y = false := by
  rw [Bool.eq_false_iff]
  intro h
  rw [byd_iff, sideW_two] at h
  rcases h with ⟨h1, h2, h3⟩ | ⟨h1, h2, h3⟩
  · have p1 := Int.mul_nonpos_of_nonpos_of_nonneg (show b.x - x ≤ 0 by omega) (show 0 ≤ y - a.y by omega)
    have p2 := Int.mul_nonpos_of_nonpos_of_nonneg (show a.x - x ≤ 0 by omega) (show 0 ≤ b.y - y by omega)
    omega
  · have p1 := Int.mul_nonneg_of_nonpos_of_nonpos (show b.x - x ≤ 0 by omega) (show y - a.y ≤ 0 by omega)
    have p2 := Int.mul_nonneg_of_nonpos_of_nonpos (show a.x - x ≤ 0 by omega) (show b.y - y ≤ 0 by omega)
    omega
/-- Above the line or not: a closed poly is crossed as often up as down. -/
def ovP (p : Pt) (y : Int) : Int := if y < p.y then 1 else 0
theorem way_ov (a b : Pt) (y : Int) : wayP a b y = ovP b y - ovP a y := by
  unfold wayP ovP
  by_cases h1 : y < b.y <;> by_cases h2 : y < a.y <;> simp [h1, h2] <;> omega
theorem sumN_sub (f g : Nat → Int) : ∀ n, sumN (fun i => f i - g i) n = sumN f n - sumN g n
  | 0 => rfl
  | n + 1 => by
    show sumN (fun i => f i - g i) n + (f n - g n) = sumN f n + f n - (sumN g n + g n)
    rw [sumN_sub f g n]; omega
theorem sumN_add (f g : Nat → Int) : ∀ n, sumN (fun i => f i + g i) n = sumN f n + sumN g n
  | 0 => rfl
  | n + 1 => by
    show sumN (fun i => f i + g i) n + (f n + g n) = sumN f n + f n + (sumN g n + g n)
    rw [sumN_add f g n]; omega
theorem sumN_zero {f : Nat → Int} : ∀ {n : Nat}, (∀ i, i < n → f i = 0) → sumN f n = 0
  | 0, _ => rfl
  | n + 1, h => by
    show sumN f n + f n = 0
    rw [sumN_zero (fun i hi => h i (by omega)), h n (by omega)]; rfl
theorem sumN_next (g : Nat → Int) (n : Nat) : sumN (fun i => g (nxt n i)) n = sumN g n := by
  rcases n with _ | m
  · rfl
  · show sumN (fun i => g (nxt (m + 1) i)) m + g (nxt (m + 1) m) = sumN g (m + 1)
    rw [sumN_head g m, nxt_last rfl, sumN_cong (g := fun i => g (i + 1)) (fun i hi => by rw [nxt_in (by omega)])]
    omega
theorem sumS_way (y : Int) (ps : List Pt) : sumS (fun a b => wayP a b y) ps = 0 := by
  have e : sumS (fun a b => wayP a b y) ps = sumN (fun i => ovP (plc (pt ps (nxt ps.length i))) y) ps.length - sumN (fun i => ovP (plc (pt ps i)) y) ps.length := by
    rw [← sumN_sub]
    unfold sumS
    refine sumN_cong fun i hi => ?_
    show wayP (sa ps i) (sb ps i) y = _
    rw [way_ov]
    rfl
  rw [e, sumN_next (fun j => ovP (plc (pt ps j)) y)]
  omega

/-- A side: from a to b. -/
abbrev Sd := Pt × Pt
def sumL (f : Sd → Int) : List Sd → Int
  | [] => 0
  | s :: l => f s + sumL f l
theorem sumL_append (f : Sd → Int) : ∀ l m, sumL f (l ++ m) = sumL f l + sumL f m
  | [], m => by simp [sumL]
  | s :: l, m => by
    show f s + sumL f (l ++ m) = f s + sumL f l + sumL f m
    rw [sumL_append f l m]; omega
theorem sumL_cong {f g : Sd → Int} : ∀ {l : List Sd}, (∀ s ∈ l, f s = g s) → sumL f l = sumL g l
  | [], _ => rfl
  | s :: l, h => by
    show f s + sumL f l = g s + sumL g l
    rw [h s (by simp), sumL_cong (fun t ht => h t (by simp [ht]))]
theorem sumL_sub (f g : Sd → Int) : ∀ l, sumL (fun s => f s - g s) l = sumL f l - sumL g l
  | [] => rfl
  | s :: l => by
    show f s - g s + sumL (fun s => f s - g s) l = f s + sumL f l - (g s + sumL g l)
    rw [sumL_sub f g l]; omega
theorem sumL_in {f : Sd → Int} (h : ∀ s, -1 ≤ f s ∧ f s ≤ 1) : ∀ l : List Sd, -(l.length : Int) ≤ sumL f l ∧ sumL f l ≤ l.length
  | [] => by simp [sumL]
  | s :: l => by
    have h1 := h s
    have h2 := sumL_in h l
    show -((s :: l).length : Int) ≤ f s + sumL f l ∧ f s + sumL f l ≤ (s :: l).length
    rw [List.length_cons]
    omega
/-- May lines from y0 to y1 cross it? -/
def sdOk (y0 y1 : Int) (s : Sd) : Bool := decide (minI s.1.y s.2.y ≤ y1) && decide (y0 < maxI s.1.y s.2.y)
theorem sdOk_not {y0 y1 y : Int} {s : Sd} (h : sdOk y0 y1 s = false) (h0 : y0 ≤ y) (h1 : y ≤ y1) : wayP s.1 s.2 y = 0 := by
  unfold sdOk at h
  have m1 := minI_le s.1.y s.2.y
  have m2 := le_maxI s.1.y s.2.y
  simp only [Bool.and_eq_false_iff, decide_eq_false_iff_not] at h
  unfold wayP
  rw [if_neg (by omega), if_neg (by omega)]
/-- Side k of a poly, the first one from its last place to its first. -/
def sideA (ps : List Pt) (k : Nat) : Sd := (plc (pt ps (if k = 0 then ps.length - 1 else k - 1)), plc (pt ps k))
theorem sum_sideA (f : Sd → Int) (ps : List Pt) : sumN (fun i => f (sideA ps i)) ps.length = sumS (fun a b => f (a, b)) ps := by
  unfold sumS
  obtain ⟨n, hn⟩ : ∃ n, ps.length = n := ⟨_, rfl⟩
  rw [hn]
  rcases n with _ | m
  · rfl
  · rw [sumN_head]
    show _ = sumN (fun i => f (sa ps i, sb ps i)) m + f (sa ps m, sb ps m)
    have e0 : sideA ps 0 = (sa ps m, sb ps m) := by unfold sideA sa sb; rw [hn, nxt_last rfl]; rfl
    rw [e0, sumN_cong (g := fun i => f (sa ps i, sb ps i)) (fun i hi => by unfold sideA sa sb; rw [hn, nxt_in (by omega), if_neg (by omega)]; rfl)]
    omega
/-- The first k of them that may be crossed. -/
def sdN (y0 y1 : Int) (ps : List Pt) : Nat → List Sd
  | 0 => []
  | k + 1 => sdN y0 y1 ps k ++ if sdOk y0 y1 (sideA ps k) = true then [sideA ps k] else []
theorem sdN_yes {y0 y1 : Int} {ps : List Pt} {k : Nat} (h : sdOk y0 y1 (sideA ps k) = true) : sdN y0 y1 ps (k + 1) = sdN y0 y1 ps k ++ [sideA ps k] := by rw [sdN, if_pos h]
theorem sdN_no {y0 y1 : Int} {ps : List Pt} {k : Nat} (h : sdOk y0 y1 (sideA ps k) = false) : sdN y0 y1 ps (k + 1) = sdN y0 y1 ps k := by rw [sdN, if_neg (by rw [h]; simp), List.append_nil]
theorem sdN_length (y0 y1 : Int) (ps : List Pt) : ∀ k, (sdN y0 y1 ps k).length ≤ k
  | 0 => Nat.le_refl _
  | k + 1 => by
    have := sdN_length y0 y1 ps k
    unfold sdN
    rw [List.length_append]
    split <;> simp <;> omega
def sdQ (y0 y1 : Int) (ps : List Pt) : List Sd := if ps.length < 2 then [] else sdN y0 y1 ps ps.length
theorem sdQ_length (y0 y1 : Int) (ps : List Pt) : (sdQ y0 y1 ps).length ≤ ps.length := by
  unfold sdQ
  split
  · simp
  · exact sdN_length _ _ _ _
theorem sum_sdN {y0 y1 : Int} {f : Sd → Int} (h0 : ∀ s, sdOk y0 y1 s = false → f s = 0) (ps : List Pt) : ∀ k, sumL f (sdN y0 y1 ps k) = sumN (fun i => f (sideA ps i)) k
  | 0 => rfl
  | k + 1 => by
    show _ = sumN (fun i => f (sideA ps i)) k + f (sideA ps k)
    cases h : sdOk y0 y1 (sideA ps k)
    · rw [sdN_no h, sum_sdN h0 ps k, h0 _ h]; omega
    · rw [sdN_yes h, sumL_append, sum_sdN h0 ps k]; simp [sumL]
theorem sum_sdQ {y0 y1 : Int} {f : Sd → Int} (h0 : ∀ s, sdOk y0 y1 s = false → f s = 0) (h1 : ∀ a, f (a, a) = 0) (ps : List Pt) : sumL f (sdQ y0 y1 ps) = sumS (fun a b => f (a, b)) ps := by
  unfold sdQ
  by_cases h : ps.length < 2
  · rw [if_pos h]
    unfold sumS
    rcases (show ps.length = 0 ∨ ps.length = 1 by omega) with e | e
    · rw [e]; rfl
    · rw [e]
      show (0 : Int) = 0 + f (sa ps 0, sb ps 0)
      have : sb ps 0 = sa ps 0 := by unfold sa sb; rw [e, nxt_last rfl]
      rw [this, h1]; rfl
  · rw [if_neg h, sum_sdN h0, sum_sideA]
/-- Those of the first n polys. -/
def sdR (y0 y1 : Int) (F : Nat → List Pt) : Nat → List Sd
  | 0 => []
  | n + 1 => sdR y0 y1 F n ++ sdQ y0 y1 (F n)
theorem sum_sdR {y0 y1 : Int} {f : Sd → Int} (h0 : ∀ s, sdOk y0 y1 s = false → f s = 0) (h1 : ∀ a, f (a, a) = 0) (F : Nat → List Pt) : ∀ n, sumL f (sdR y0 y1 F n) = sumN (fun i => sumS (fun a b => f (a, b)) (F i)) n
  | 0 => rfl
  | n + 1 => by
    show sumL f (sdR y0 y1 F n ++ sdQ y0 y1 (F n)) = sumN (fun i => sumS (fun a b => f (a, b)) (F i)) n + sumS (fun a b => f (a, b)) (F n)
    rw [sumL_append, sum_sdR h0 h1 F n, sum_sdQ h0 h1]
theorem way_self (a : Pt) (y : Int) : wayP a a y = 0 := by unfold wayP; rw [if_neg (by omega), if_neg (by omega)]
theorem sum_w1 {y0 y1 x y : Int} (h0 : y0 ≤ y) (h1 : y ≤ y1) (F : Nat → List Pt) (n : Nat) : sumL (fun s => w1 x y s.1 s.2) (sdR y0 y1 F n) = windN x y F n := by
  rw [sum_sdR (fun s h => by rw [w1_way, sdOk_not h h0 h1]; simp) (fun a => by simp only [w1_way, way_self]; simp)]
  rfl
theorem sum_way {y0 y1 y : Int} (h0 : y0 ≤ y) (h1 : y ≤ y1) (F : Nat → List Pt) (n : Nat) : sumL (fun s => wayP s.1 s.2 y) (sdR y0 y1 F n) = 0 := by
  rw [sum_sdR (fun s h => sdOk_not h h0 h1) (fun a => way_self a y)]
  exact sumN_zero fun i _ => sumS_way y (F i)

/-- How many of the first n places answer true. -/
def cntF (p : Nat → Bool) : Nat → Nat
  | 0 => 0
  | n + 1 => cntF p n + if p n = true then 1 else 0
theorem cntF_le (p : Nat → Bool) : ∀ n, cntF p n ≤ n
  | 0 => Nat.le_refl _
  | n + 1 => by
    have := cntF_le p n
    unfold cntF
    split <;> omega
theorem cntF_all {p : Nat → Bool} : ∀ {n : Nat}, (∀ i, i < n → p i = true) → cntF p n = n
  | 0, _ => rfl
  | n + 1, h => by unfold cntF; rw [cntF_all (fun i hi => h i (by omega)), if_pos (h n (by omega))]
theorem cntF_at {p : Nat → Bool} {m : Nat} (h1 : ∀ i, i < m → p i = true) : ∀ {n : Nat}, m ≤ n → (∀ i, m ≤ i → i < n → p i = false) → cntF p n = m
  | 0, hm, _ => by
    obtain rfl : m = 0 := by omega
    rfl
  | n + 1, hm, h2 => by
    rcases Nat.lt_or_ge n m with h | h
    · obtain rfl : m = n + 1 := by omega
      exact cntF_all h1
    · unfold cntF
      rw [cntF_at h1 h (fun i hi hn => h2 i hi (by omega)), if_neg (by rw [h2 n h (by omega)]; simp)]
      rfl
/-- Where the answers are true up to a place and false from there on. -/
theorem cntF_iff {p : Nat → Bool} {n : Nat} (hp : ∀ i j, i ≤ j → j < n → p j = true → p i = true) {i : Nat} (hi : i < n) : i < cntF p n ↔ p i = true := by
  have key : ∀ n, (∀ i j, i ≤ j → j < n → p j = true → p i = true) → ∃ m, m ≤ n ∧ (∀ i, i < m → p i = true) ∧ ∀ i, m ≤ i → i < n → p i = false := by
    intro n
    induction n with
    | zero => exact fun _ => ⟨0, Nat.le_refl _, fun i h => by omega, fun i h h2 => by omega⟩
    | succ n ih =>
      intro hp
      obtain ⟨m, hm, h1, h2⟩ := ih (fun i j h hj => hp i j h (by omega))
      cases hq : p n
      · exact ⟨m, by omega, h1, fun i hi hn => by
          rcases Nat.lt_or_ge i n with h | h
          · exact h2 i hi h
          · obtain rfl : i = n := by omega
            exact hq⟩
      · exact ⟨n + 1, Nat.le_refl _, fun i hi => hp i n (by omega) (by omega) hq, fun i h h3 => by omega⟩
  obtain ⟨m, hm, h1, h2⟩ := key n hp
  rw [cntF_at h1 hm h2]
  constructor
  · exact h1 i
  · intro h
    apply Classical.byContradiction
    intro hn
    rw [h2 i (by omega) hi] at h
    cases h

/-- The place of column i of places, from pixel x0 on. -/
def colX (x0 : Int) (i : Nat) : Int := x0 * 65536 + (i : Int) * 16384 + 8192
/-- Up to which of n places a side lies beyond. -/
def fstS (x0 y : Int) (n : Nat) (s : Sd) : Nat := cntF (fun i => bydP s.1 s.2 (colX x0 i) y) n
theorem fstS_le (x0 y : Int) (n : Nat) (s : Sd) : fstS x0 y n s ≤ n := cntF_le _ _
theorem fstS_iff {x0 y : Int} {n : Nat} {s : Sd} {i : Nat} (hi : i < n) : i < fstS x0 y n s ↔ bydP s.1 s.2 (colX x0 i) y = true :=
  cntF_iff (p := fun i => bydP s.1 s.2 (colX x0 i) y) (fun i j h _ hp => byd_back (by unfold colX; omega) hp) hi
/-- What the sides change at place i. -/
def chgL (x0 y : Int) (n : Nat) (l : List Sd) (i : Nat) : Int := sumL (fun s => if fstS x0 y n s = i then - wayP s.1 s.2 y else 0) l
theorem chgL_in (x0 y : Int) (n : Nat) (l : List Sd) (i : Nat) : -(l.length : Int) ≤ chgL x0 y n l i ∧ chgL x0 y n l i ≤ l.length := sumL_in (fun s => by have := wayP_in s.1 s.2 y; split <;> omega) l
theorem chgL_snoc (x0 y : Int) (n : Nat) (l : List Sd) (s : Sd) (i : Nat) : chgL x0 y n (l ++ [s]) i = if fstS x0 y n s = i then chgL x0 y n l i - wayP s.1 s.2 y else chgL x0 y n l i := by
  unfold chgL
  rw [sumL_append]
  simp only [sumL]
  split <;> omega
theorem sumN_hit (c : Nat) (v : Int) : ∀ n, sumN (fun j => if c = j then v else 0) n = if c < n then v else 0
  | 0 => by simp [sumN]
  | n + 1 => by
    show sumN (fun j => if c = j then v else 0) n + (if c = n then v else 0) = _
    rw [sumN_hit c v n]
    split <;> split <;> split <;> omega
theorem chg_swap (x0 y : Int) (n : Nat) (k : Nat) : ∀ l : List Sd, sumN (chgL x0 y n l) k = sumL (fun s => if fstS x0 y n s < k then - wayP s.1 s.2 y else 0) l
  | [] => sumN_zero fun _ _ => rfl
  | s :: l => by
    show sumN (fun j => (if fstS x0 y n s = j then - wayP s.1 s.2 y else 0) + chgL x0 y n l j) k = (if fstS x0 y n s < k then - wayP s.1 s.2 y else 0) + sumL (fun s => if fstS x0 y n s < k then - wayP s.1 s.2 y else 0) l
    rw [sumN_add, sumN_hit, ← chg_swap x0 y n k l]
/-- What the changes up to a place add up to is how often the polys go round it. -/
theorem chg_wind {x0 y y0 y1 : Int} (h0 : y0 ≤ y) (h1 : y ≤ y1) (F : Nat → List Pt) (m : Nat) {n i : Nat} (hi : i < n) : sumN (chgL x0 y n (sdR y0 y1 F m)) (i + 1) = windN (colX x0 i) y F m := by
  rw [chg_swap, ← sum_w1 h0 h1 F m]
  have e := sum_way h0 h1 F m
  have e2 := sumL_sub (fun s => w1 (colX x0 i) y s.1 s.2) (fun s => wayP s.1 s.2 y) (sdR y0 y1 F m)
  rw [e, Int.sub_zero] at e2
  rw [← e2]
  refine sumL_cong fun s _ => ?_
  have h := fstS_iff (x0 := x0) (y := y) (s := s) hi
  simp only [w1_way]
  by_cases hb : bydP s.1 s.2 (colX x0 i) y = true
  · have := h.2 hb
    rw [if_pos hb, if_neg (by omega)]; omega
  · have : ¬ i < fstS x0 y n s := fun h2 => hb (h.1 h2)
    rw [if_neg hb, if_pos (by omega)]; omega

/-- How many of the first i places that lie in pixel p answer true. -/
def addN (c : Nat → Bool) (p : Nat) : Nat → Nat
  | 0 => 0
  | i + 1 => addN c p i + if i / 4 = p ∧ c i = true then 1 else 0
theorem addN_le (c : Nat → Bool) (p : Nat) (i : Nat) : addN c p i ≤ i - 4 * p ∧ addN c p i ≤ 4 := by
  have key : addN c p i ≤ min (i - 4 * p) 4 := by
    induction i with
    | zero => simp [addN]
    | succ i ih =>
      unfold addN
      split <;> omega
  omega
theorem addN_after (c : Nat → Bool) (p : Nat) : ∀ k, addN c p (4 * p + 4 + k) = addN c p (4 * p + 4)
  | 0 => rfl
  | k + 1 => by
    show addN c p (4 * p + 4 + k) + (if (4 * p + 4 + k) / 4 = p ∧ c (4 * p + 4 + k) = true then 1 else 0) = _
    rw [addN_after c p k, if_neg (by omega)]; rfl
theorem addN_ahead (c : Nat → Bool) (p : Nat) (i : Nat) (h : i ≤ 4 * p) : addN c p i = 0 := by have := addN_le c p i; omega
theorem addN_all (c : Nat → Bool) {p m : Nat} (h : p < m) : addN c p (4 * m) = (if c (4 * p) = true then 1 else 0) + (if c (4 * p + 1) = true then 1 else 0) + (if c (4 * p + 2) = true then 1 else 0) + (if c (4 * p + 3) = true then 1 else 0) := by
  obtain ⟨k, hk⟩ : ∃ k, 4 * m = 4 * p + 4 + k := ⟨4 * m - (4 * p + 4), by omega⟩
  rw [hk, addN_after]
  show addN c p (4 * p) + _ + _ + _ + _ = _
  rw [addN_ahead c p _ (Nat.le_refl _)]
  have e : ∀ j, j < 4 → (4 * p + j) / 4 = p := fun j hj => by omega
  rw [show (4 * p) / 4 = p by omega]
  simp only [e 1 (by omega), e 2 (by omega), e 3 (by omega), true_and]
  omega
/-- One line of a pixel's places. -/
theorem covN_line (W : Int → Int → Int) (rule x y : Int) (j : Nat) : covN W rule x y (4 * (j + 1)) = covN W rule x y (4 * j) +
    ((if countB rule (W (colX x 0) (y * 65536 + (j : Int) * 16384 + 8192)) = true then 1 else 0) + (if countB rule (W (colX x 1) (y * 65536 + (j : Int) * 16384 + 8192)) = true then 1 else 0) +
     (if countB rule (W (colX x 2) (y * 65536 + (j : Int) * 16384 + 8192)) = true then 1 else 0) + (if countB rule (W (colX x 3) (y * 65536 + (j : Int) * 16384 + 8192)) = true then 1 else 0)) := by
  have un : covN W rule x y (4 * (j + 1)) = covN W rule x y (4 * j) + (if countB rule (W (smpX x (4 * j + 0)) (smpY y (4 * j + 0))) = true then 1 else 0) + (if countB rule (W (smpX x (4 * j + 1)) (smpY y (4 * j + 1))) = true then 1 else 0) + (if countB rule (W (smpX x (4 * j + 2)) (smpY y (4 * j + 2))) = true then 1 else 0) + (if countB rule (W (smpX x (4 * j + 3)) (smpY y (4 * j + 3))) = true then 1 else 0) := rfl
  rw [un]
  have ex : ∀ c : Nat, c < 4 → smpX x (4 * j + c) = colX x c := fun c hc => by unfold smpX colX; omega
  have ey : ∀ c : Nat, c < 4 → smpY y (4 * j + c) = y * 65536 + (j : Int) * 16384 + 8192 := fun c hc => by unfold smpY; omega
  rw [ex 0 (by omega), ex 1 (by omega), ex 2 (by omega), ex 3 (by omega), ey 0 (by omega), ey 1 (by omega), ey 2 (by omega), ey 3 (by omega)]
  omega
theorem colX_pixel (x0 : Int) (p c : Nat) : colX x0 (4 * p + c) = colX (x0 + p) c := by unfold colX; omega

/-- Places all of which lie right of a place, or all left of it, or none of which its line goes between: nothing goes round it. -/
theorem sumS_right {x y : Int} {ps : List Pt} (h : ∀ p ∈ ps, x < place p.x) : windP x y ps = 0 := by
  have e : windP x y ps = sumS (fun a b => wayP a b y) ps := by
    unfold windP sumS
    refine sumN_cong fun i hi => ?_
    have m : ∀ j, j < ps.length → x < (plc (pt ps j)).x := fun j hj => by
      refine h _ ?_
      unfold pt
      rw [List.getD_eq_getElem?_getD, List.getElem?_eq_getElem hj]
      exact List.getElem_mem hj
    have ha : x < (sa ps i).x := m i hi
    have hb : x < (sb ps i).x := m _ (nxt_lt hi)
    rw [w1_way]
    by_cases hw : wayP (sa ps i) (sb ps i) y = 0
    · simp only [hw]; simp
    · rw [if_pos (byd_right ha hb hw)]
  rw [e, sumS_way]
theorem sumS_left {x y : Int} {ps : List Pt} (h : ∀ p ∈ ps, place p.x < x) : windP x y ps = 0 := by
  unfold windP sumS
  refine sumN_zero fun i hi => ?_
  have m : ∀ j, j < ps.length → (plc (pt ps j)).x < x := fun j hj => by
    refine h _ ?_
    unfold pt
    rw [List.getD_eq_getElem?_getD, List.getElem?_eq_getElem hj]
    exact List.getElem_mem hj
  have ha : (sa ps i).x < x := m i hi
  have hb : (sb ps i).x < x := m _ (nxt_lt hi)
  rw [w1_way, byd_left ha hb]
  simp
theorem sumS_over {x y : Int} {ps : List Pt} (h : (∀ p ∈ ps, y < place p.y) ∨ ∀ p ∈ ps, place p.y ≤ y) : windP x y ps = 0 := by
  unfold windP sumS
  refine sumN_zero fun i hi => ?_
  have m : ∀ j, j < ps.length → pt ps j ∈ ps := fun j hj => by
    unfold pt
    rw [List.getD_eq_getElem?_getD, List.getElem?_eq_getElem hj]
    exact List.getElem_mem hj
  have hw : wayP (sa ps i) (sb ps i) y = 0 := by
    unfold wayP
    rcases h with h | h
    · have a : y < (sa ps i).y := h _ (m i hi)
      have b : y < (sb ps i).y := h _ (m _ (nxt_lt hi))
      rw [if_neg (by omega), if_neg (by omega)]
    · have a : (sa ps i).y ≤ y := h _ (m i hi)
      have b : (sb ps i).y ≤ y := h _ (m _ (nxt_lt hi))
      rw [if_neg (by omega), if_neg (by omega)]
  rw [w1_way, hw]
  simp

end M
end Go.Proofs.Ytopepgifhnfbiaa
