/- The plain arithmetic of the document's fifteenth chapter (how often polys go round a place, how much of a pixel is covered), on Lean's own integers and lists: no condition but those that the theorems name; no program is named here. -/
import Derived.Test.YtopepgifhnfbiaaUMath
namespace Go.Proofs.Ytopepgifhnfbiaa
namespace M

/-- On which side of the line from a to b a place lies. -/
def sideW (a b : Pt) (x y : Int) : Int := (b.x - a.x) * (y - a.y) - (x - a.x) * (b.y - a.y)
theorem sideW_neg (a b : Pt) (x y : Int) : sideW b a x y = - sideW a b x y := by
  unfold sideW
  grind
/-- What a side adds. -/
def w1 (x y : Int) (a b : Pt) : Int := if a.y ≤ y ∧ y < b.y ∧ 0 < sideW a b x y then 1 else if b.y ≤ y ∧ y < a.y ∧ sideW a b x y < 0 then -1 else 0
theorem w1_in (x y : Int) (a b : Pt) : -1 ≤ w1 x y a b ∧ w1 x y a b ≤ 1 := by unfold w1; split <;> (try split) <;> omega
theorem w1_neg (x y : Int) (a b : Pt) : w1 x y b a = - w1 x y a b := by
  have e := sideW_neg a b x y
  unfold w1
  by_cases h1 : a.y ≤ y ∧ y < b.y ∧ 0 < sideW a b x y
  · rw [if_pos h1, if_neg (by omega), if_pos (by omega)]
  · rw [if_neg h1]
    by_cases h2 : b.y ≤ y ∧ y < a.y ∧ sideW a b x y < 0
    · rw [if_pos h2, if_pos (by omega)]; rfl
    · rw [if_neg h2, if_neg (by omega), if_neg (by omega)]; rfl
/-- A number of each side of a poly that is closed, added up. -/
def sumS (f : Pt → Pt → Int) (ps : List Pt) : Int := sumN (fun i => f (sa ps i) (sb ps i)) ps.length
theorem sumS_reverse (f : Pt → Pt → Int) (hf : ∀ a b, f b a = - f a b) (ps : List Pt) : sumS f ps.reverse = - sumS f ps := by
  unfold sumS
  rw [List.length_reverse]
  rcases Nat.eq_zero_or_pos ps.length with h0 | h0
  · rw [h0]; rfl
  obtain ⟨n, hn⟩ : ∃ n, ps.length = n + 1 := ⟨ps.length - 1, by omega⟩
  rw [hn]
  show sumN (fun i => f (sa ps.reverse i) (sb ps.reverse i)) n + f (sa ps.reverse n) (sb ps.reverse n) = - (sumN (fun i => f (sa ps i) (sb ps i)) n + f (sa ps n) (sb ps n))
  have e1 : f (sa ps.reverse n) (sb ps.reverse n) = - f (sa ps n) (sb ps n) := by
    unfold sa sb
    rw [List.length_reverse, hn, nxt_last rfl, pt_reverse (by omega), pt_reverse (by omega), hn, show n + 1 - 1 - n = 0 by omega, show n + 1 - 1 - 0 = n by omega, hf]
  have e2 : sumN (fun i => f (sa ps.reverse i) (sb ps.reverse i)) n = sumN (fun i => - f (sa ps (n - 1 - i)) (sb ps (n - 1 - i))) n := sumN_cong fun i hi => by
    unfold sa sb
    rw [List.length_reverse, hn, nxt_in (by omega), nxt_in (by omega), pt_reverse (by omega), pt_reverse (by omega), hn, show n - 1 - i + 1 = n + 1 - 1 - i by omega, show n + 1 - 1 - (i + 1) = n - 1 - i by omega, hf]
  rw [e1, e2, sumN_neg (fun i => f (sa ps (n - 1 - i)) (sb ps (n - 1 - i))), sumN_rev (fun i => f (sa ps i) (sb ps i))]
  omega
theorem sumN_split (f : Nat → Int) (a : Nat) : ∀ b, sumN f (a + b) = sumN f a + sumN (fun i => f (a + i)) b
  | 0 => by simp [sumN]
  | b + 1 => by
    show sumN f (a + b) + f (a + b) = sumN f a + (sumN (fun i => f (a + i)) b + f (a + b))
    rw [sumN_split f a b]; omega
/-- A poly that begins elsewhere. -/
theorem sumS_turn (f : Pt → Pt → Int) {ps qs : List Pt} {k : Nat} (hl : qs.length = ps.length) (hk : k < ps.length) (hq : ∀ i, i < ps.length → pt qs i = pt ps ((i + k) % ps.length)) : sumS f qs = sumS f ps := by
  obtain ⟨n, hn⟩ : ∃ n, ps.length = n := ⟨_, rfl⟩
  unfold sumS
  rw [hl, hn]
  rw [hn] at hl hk hq
  have step : ∀ i, i < n → f (sa qs i) (sb qs i) = f (sa ps ((i + k) % n)) (sb ps ((i + k) % n)) := by
    intro i hi
    unfold sa sb
    rw [hl, hn, hq i hi, hq _ (nxt_lt hi)]
    congr 3
    have hm : (i + k) % n < n := Nat.mod_lt _ (by omega)
    by_cases h1 : i + 1 = n
    · rw [nxt_last h1]
      by_cases h2 : (i + k) % n + 1 = n
      · rw [nxt_last h2]
        have : (i + k) % n = if i + k < n then i + k else i + k - n := by
          split
          · exact Nat.mod_eq_of_lt (by omega)
          · rw [Nat.mod_eq_sub_mod (by omega), Nat.mod_eq_of_lt (by omega)]
        split at this
        · have : k = 0 := by omega
          subst this; simp
        · have : k = n := by omega
          omega
      · rw [nxt_in h2]
        have : (i + k) % n = if i + k < n then i + k else i + k - n := by
          split
          · exact Nat.mod_eq_of_lt (by omega)
          · rw [Nat.mod_eq_sub_mod (by omega), Nat.mod_eq_of_lt (by omega)]
        rw [Nat.mod_eq_of_lt (show 0 + k < n by omega)]
        split at this <;> omega
    · rw [nxt_in h1]
      have e1 : (i + k) % n = if i + k < n then i + k else i + k - n := by
        split
        · exact Nat.mod_eq_of_lt (by omega)
        · rw [Nat.mod_eq_sub_mod (by omega), Nat.mod_eq_of_lt (by omega)]
      have e2 : (i + 1 + k) % n = if i + 1 + k < n then i + 1 + k else i + 1 + k - n := by
        split
        · exact Nat.mod_eq_of_lt (by omega)
        · rw [Nat.mod_eq_sub_mod (by omega), Nat.mod_eq_of_lt (by omega)]
      by_cases h2 : (i + k) % n + 1 = n
      · rw [nxt_last h2]
        split at e1 <;> split at e2 <;> omega
      · rw [nxt_in h2]
        split at e1 <;> split at e2 <;> omega
  rw [sumN_cong step]
  have e3 := sumN_split (fun i => f (sa ps ((i + k) % n)) (sb ps ((i + k) % n))) (n - k) k
  rw [show n - k + k = n by omega] at e3
  have e4 := sumN_split (fun i => f (sa ps i) (sb ps i)) k (n - k)
  rw [show k + (n - k) = n by omega] at e4
  rw [e3, e4]
  have e5 : sumN (fun i => f (sa ps ((i + k) % n)) (sb ps ((i + k) % n))) (n - k) = sumN (fun i => f (sa ps (k + i)) (sb ps (k + i))) (n - k) := sumN_cong fun i hi => by
    rw [Nat.mod_eq_of_lt (by omega), Nat.add_comm]
  have e6 : sumN (fun i => f (sa ps ((n - k + i + k) % n)) (sb ps ((n - k + i + k) % n))) k = sumN (fun i => f (sa ps i) (sb ps i)) k := sumN_cong fun i hi => by
    rw [show n - k + i + k = i + n by omega, Nat.add_mod_right, Nat.mod_eq_of_lt (by omega)]
  rw [e5, e6]
  omega
/-- How often a poly goes round a place. -/
def windP (x y : Int) (ps : List Pt) : Int := sumS (w1 x y) ps
/-- The first n sides of it. -/
def windS (x y : Int) (ps : List Pt) (n : Nat) : Int := sumN (fun i => w1 x y (sa ps i) (sb ps i)) n
theorem windS_step (x y : Int) (ps : List Pt) (n : Nat) : windS x y ps (n + 1) = windS x y ps n + w1 x y (sa ps n) (sb ps n) := rfl
theorem windS_all (x y : Int) (ps : List Pt) : windS x y ps ps.length = windP x y ps := rfl
theorem windS_in (x y : Int) (ps : List Pt) (n : Nat) : -(n : Int) ≤ windS x y ps n ∧ windS x y ps n ≤ n := by
  have := sumN_in (f := fun i => w1 x y (sa ps i) (sb ps i)) (m := 1) (n := n) (fun i _ => w1_in _ _ _ _)
  unfold windS
  omega
theorem windP_few {x y : Int} {ps : List Pt} (h : ps.length < 2) : windP x y ps = 0 := by
  unfold windP sumS
  rcases (show ps.length = 0 ∨ ps.length = 1 by omega) with e | e
  · rw [e]; rfl
  · rw [e]
    show (0 : Int) + w1 x y (sa ps 0) (sb ps 0) = 0
    have : sb ps 0 = sa ps 0 := by unfold sa sb; rw [e, nxt_last rfl]
    rw [this]
    unfold w1
    rw [if_neg (by omega), if_neg (by omega)]; rfl
theorem windP_reverse (x y : Int) (ps : List Pt) : windP x y ps.reverse = - windP x y ps := sumS_reverse _ (fun a b => w1_neg x y a b) ps
theorem windP_turn {x y : Int} {ps qs : List Pt} {k : Nat} (hl : qs.length = ps.length) (hk : k < ps.length) (hq : ∀ i, i < ps.length → pt qs i = pt ps ((i + k) % ps.length)) : windP x y qs = windP x y ps := sumS_turn _ hl hk hq
/-- Of the first n polys. -/
def windN (x y : Int) (f : Nat → List Pt) : Nat → Int := sumN (fun i => windP x y (f i))
theorem windN_step (x y : Int) (f : Nat → List Pt) (n : Nat) : windN x y f (n + 1) = windN x y f n + windP x y (f n) := rfl
theorem windN_cong {x y : Int} {f g : Nat → List Pt} {n : Nat} (h : ∀ i, i < n → f i = g i) : windN x y f n = windN x y g n := sumN_cong fun i hi => by rw [h i hi]
theorem windN_in (x y : Int) (f : Nat → List Pt) {m : Nat} : ∀ {n : Nat}, (∀ i, i < n → (f i).length ≤ m) → -((n * m : Nat) : Int) ≤ windN x y f n ∧ windN x y f n ≤ ((n * m : Nat) : Int) := by
  intro n h
  have := sumN_in (f := fun i => windP x y (f i)) (m := m) (n := n) (fun i hi => by
    have h1 := windS_in x y (f i) (f i).length
    rw [windS_all] at h1
    have := h i hi
    omega)
  unfold windN
  rw [Int.natCast_mul]
  exact this
/-- A side moved with the place. -/
theorem w1_shift (a b : Pt) (x y u v : Int) : w1 (x + u) (y + v) ⟨a.x + u, a.y + v⟩ ⟨b.x + u, b.y + v⟩ = w1 x y a b := by
  have e : sideW ⟨a.x + u, a.y + v⟩ ⟨b.x + u, b.y + v⟩ (x + u) (y + v) = sideW a b x y := by
    unfold sideW
    simp only
    rw [show b.x + u - (a.x + u) = b.x - a.x by omega, show y + v - (a.y + v) = y - a.y by omega, show x + u - (a.x + u) = x - a.x by omega, show b.y + v - (a.y + v) = b.y - a.y by omega]
  unfold w1
  rw [e]
  by_cases h1 : a.y ≤ y ∧ y < b.y ∧ 0 < sideW a b x y
  · rw [if_pos h1, if_pos (by simp only; omega)]
  · rw [if_neg h1, if_neg (by simp only; omega)]
    by_cases h2 : b.y ≤ y ∧ y < a.y ∧ sideW a b x y < 0
    · rw [if_pos h2, if_pos (by simp only; omega)]
    · rw [if_neg h2, if_neg (by simp only; omega)]
/-- Places that stay within Far, moved. -/
theorem windP_shift {x y u v : Int} {ps qs : List Pt} (hl : qs.length = ps.length) (hq : ∀ i, i < ps.length → plc (pt qs i) = ⟨(plc (pt ps i)).x + u, (plc (pt ps i)).y + v⟩) : windP (x + u) (y + v) qs = windP x y ps := by
  unfold windP sumS
  rw [hl]
  refine sumN_cong fun i hi => ?_
  unfold sa sb
  rw [hl, hq i hi, hq _ (nxt_lt hi), w1_shift]

/-- Does a place count that polys go round so often? -/
def countB (rule w : Int) : Bool := (decide (rule = 0) && !decide (w = 0)) || (decide (rule = 1) && !decide (w % 2 = 0))
theorem countB_neg (rule w : Int) : countB rule (-w) = countB rule w := by
  unfold countB
  have e1 : decide (-w = 0) = decide (w = 0) := by rw [Bool.eq_iff_iff, decide_eq_true_eq, decide_eq_true_eq]; omega
  have e2 : decide (-w % 2 = 0) = decide (w % 2 = 0) := by rw [Bool.eq_iff_iff, decide_eq_true_eq, decide_eq_true_eq]; omega
  rw [e1, e2]
/-- Place k of the sixteen of a pixel. -/
def smpX (x : Int) (k : Nat) : Int := x * 65536 + (2 * ((k : Int) % 4) + 1) * 8192
def smpY (y : Int) (k : Nat) : Int := y * 65536 + (2 * ((k : Int) / 4) + 1) * 8192
def nearB (x : Int) : Bool := decide (-256 ≤ x) && decide (x ≤ 256)
theorem nearB_iff {x : Int} : nearB x = true ↔ -256 ≤ x ∧ x ≤ 256 := by unfold nearB; simp
/-- How many of the first k places are within. -/
def covN (W : Int → Int → Int) (rule x y : Int) : Nat → Nat
  | 0 => 0
  | k + 1 => covN W rule x y k + if countB rule (W (smpX x k) (smpY y k)) = true then 1 else 0
def covL (W : Int → Int → Int) (rule x y : Int) : Nat := if (nearB x && nearB y) = true then covN W rule x y 16 else 0
theorem covN_le (W : Int → Int → Int) (rule x y : Int) : ∀ k, covN W rule x y k ≤ k
  | 0 => Nat.le_refl _
  | k + 1 => by
    have := covN_le W rule x y k
    unfold covN
    split <;> omega
theorem covL_le (W : Int → Int → Int) (rule x y : Int) : covL W rule x y ≤ 16 := by
  unfold covL
  split
  · exact covN_le _ _ _ _ _
  · omega
theorem covN_cong {W V : Int → Int → Int} {rule x y x' y' : Int} : ∀ {k : Nat}, (∀ i, i < k → countB rule (W (smpX x i) (smpY y i)) = countB rule (V (smpX x' i) (smpY y' i))) → covN W rule x y k = covN V rule x' y' k
  | 0, _ => rfl
  | k + 1, h => by
    unfold covN
    rw [covN_cong (fun i hi => h i (by omega)), h k (by omega)]
theorem covN_all {W : Int → Int → Int} {rule x y : Int} : ∀ {k : Nat}, (∀ i, i < k → countB rule (W (smpX x i) (smpY y i)) = true) → covN W rule x y k = k
  | 0, _ => rfl
  | k + 1, h => by
    unfold covN
    rw [covN_all (fun i hi => h i (by omega)), if_pos (h k (by omega))]
theorem covN_no {W : Int → Int → Int} {rule x y : Int} : ∀ {k : Nat}, (∀ i, i < k → countB rule (W (smpX x i) (smpY y i)) = false) → covN W rule x y k = 0
  | 0, _ => rfl
  | k + 1, h => by
    unfold covN
    rw [covN_no (fun i hi => h i (by omega)), if_neg (by rw [h k (by omega)]; simp)]
theorem smp_in {x : Int} (h0 : -256 ≤ x) (h1 : x ≤ 256) {k : Nat} (hk : k < 16) : x * 65536 + 8192 ≤ smpX x k ∧ smpX x k ≤ x * 65536 + 57344 ∧ x * 65536 + 8192 ≤ smpY x k ∧ smpY x k ≤ x * 65536 + 57344 ∧ place (smpX x k) = smpX x k ∧ place (smpY x k) = smpY x k := by
  have e1 : x * 65536 + 8192 ≤ smpX x k ∧ smpX x k ≤ x * 65536 + 57344 := by unfold smpX; omega
  have e2 : x * 65536 + 8192 ≤ smpY x k ∧ smpY x k ≤ x * 65536 + 57344 := by unfold smpY; omega
  exact ⟨e1.1, e1.2, e2.1, e2.2, place_in (by omega) (by omega), place_in (by omega) (by omega)⟩
/-- A rectangle of whole pixels. -/
def rectP (x0 y0 x1 y1 : Int) : List Pt := [⟨x0 * 65536, y0 * 65536⟩, ⟨x1 * 65536, y0 * 65536⟩, ⟨x1 * 65536, y1 * 65536⟩, ⟨x0 * 65536, y1 * 65536⟩]
theorem rect_wind {x0 y0 x1 y1 x y : Int} (b0 : -100 ≤ x0) (b1 : x0 ≤ x1) (b2 : x1 ≤ 100) (d0 : -100 ≤ y0) (d1 : y0 ≤ y1) (d2 : y1 ≤ 100) : windP x y (rectP x0 y0 x1 y1) = if x0 * 65536 ≤ x ∧ x < x1 * 65536 ∧ y0 * 65536 ≤ y ∧ y < y1 * 65536 then 1 else 0 := by
  have p : ∀ a : Int, -100 ≤ a → a ≤ 100 → place (a * 65536) = a * 65536 := fun a h1 h2 => place_in (by omega) (by omega)
  have e : windP x y (rectP x0 y0 x1 y1) = 0 + w1 x y ⟨x0 * 65536, y0 * 65536⟩ ⟨x1 * 65536, y0 * 65536⟩ + w1 x y ⟨x1 * 65536, y0 * 65536⟩ ⟨x1 * 65536, y1 * 65536⟩ + w1 x y ⟨x1 * 65536, y1 * 65536⟩ ⟨x0 * 65536, y1 * 65536⟩ + w1 x y ⟨x0 * 65536, y1 * 65536⟩ ⟨x0 * 65536, y0 * 65536⟩ := by
    have q : ∀ i j, plc (⟨i, j⟩ : Pt) = ⟨place i, place j⟩ := fun _ _ => rfl
    unfold windP sumS rectP
    simp only [List.length_cons, List.length_nil]
    simp only [sumN, sa, sb, List.length_cons, List.length_nil, nxt, pt, List.getD_cons_zero, List.getD_cons_succ]
    simp [q, p x0 b0 (by omega), p x1 (by omega) b2, p y0 d0 (by omega), p y1 (by omega) d2]
  have h1 : w1 x y ⟨x0 * 65536, y0 * 65536⟩ ⟨x1 * 65536, y0 * 65536⟩ = 0 := by unfold w1; simp only; rw [if_neg (by omega), if_neg (by omega)]
  have h3 : w1 x y ⟨x1 * 65536, y1 * 65536⟩ ⟨x0 * 65536, y1 * 65536⟩ = 0 := by unfold w1; simp only; rw [if_neg (by omega), if_neg (by omega)]
  have key : ∀ a : Int, sideW ⟨a * 65536, y0 * 65536⟩ ⟨a * 65536, y1 * 65536⟩ x y = (a * 65536 - x) * ((y1 - y0) * 65536) := by
    intro a
    unfold sideW
    simp only
    grind
  have key2 : sideW ⟨x0 * 65536, y1 * 65536⟩ ⟨x0 * 65536, y0 * 65536⟩ x y = (x - x0 * 65536) * ((y1 - y0) * 65536) := by
    unfold sideW
    simp only
    grind
  have h2 : w1 x y ⟨x1 * 65536, y0 * 65536⟩ ⟨x1 * 65536, y1 * 65536⟩ = if x < x1 * 65536 ∧ y0 * 65536 ≤ y ∧ y < y1 * 65536 then 1 else 0 := by
    unfold w1
    rw [key]
    simp only
    by_cases hy : y0 * 65536 ≤ y ∧ y < y1 * 65536
    · have hp : 0 < (y1 - y0) * 65536 := by omega
      by_cases hl : x < x1 * 65536
      · rw [if_pos ⟨hy.1, hy.2, Int.mul_pos (by omega) hp⟩, if_pos ⟨hl, hy⟩]
      · rw [if_neg (fun h => by have := Int.mul_nonpos_of_nonpos_of_nonneg (show x1 * 65536 - x ≤ 0 by omega) (Int.le_of_lt hp); omega), if_neg (by omega), if_neg (by omega)]
    · rw [if_neg (by omega), if_neg (by omega), if_neg (by omega)]
  have h4 : w1 x y ⟨x0 * 65536, y1 * 65536⟩ ⟨x0 * 65536, y0 * 65536⟩ = if x < x0 * 65536 ∧ y0 * 65536 ≤ y ∧ y < y1 * 65536 then -1 else 0 := by
    unfold w1
    rw [key2]
    simp only
    rw [if_neg (by omega)]
    by_cases hy : y0 * 65536 ≤ y ∧ y < y1 * 65536
    · have hp : 0 < (y1 - y0) * 65536 := by omega
      by_cases hl : x < x0 * 65536
      · rw [if_pos ⟨hy.1, hy.2, Int.mul_neg_of_neg_of_pos (by omega) hp⟩, if_pos ⟨hl, hy⟩]
      · rw [if_neg (fun h => by have := Int.mul_nonneg (show 0 ≤ x - x0 * 65536 by omega) (Int.le_of_lt hp); omega), if_neg (by omega)]
    · rw [if_neg (by omega), if_neg (by omega)]
  rw [e, h1, h2, h3, h4]
  by_cases hy : y0 * 65536 ≤ y ∧ y < y1 * 65536
  · by_cases h5 : x < x1 * 65536
    · by_cases h6 : x < x0 * 65536
      · rw [if_pos ⟨h5, hy⟩, if_pos ⟨h6, hy⟩, if_neg (by omega)]; rfl
      · rw [if_pos ⟨h5, hy⟩, if_neg (by omega), if_pos (by omega)]; rfl
    · rw [if_neg (by omega), if_neg (by omega), if_neg (by omega)]; rfl
  · rw [if_neg (by omega), if_neg (by omega), if_neg (by omega)]; rfl

end M
end Go.Proofs.Ytopepgifhnfbiaa
