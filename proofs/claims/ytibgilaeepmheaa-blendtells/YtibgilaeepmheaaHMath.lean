/- The plain arithmetic of the document's sixth chapter (colours: mixed, told at ticks, how bright), on Lean's own integers and lists: no condition but those that the theorems name; no program is named here. -/
import Derived.Test.YtibgilaeepmheaaKMath
namespace Go.Proofs.Ytibgilaeepmheaa
namespace M

/-- A colour: its four parts. -/
structure Cr where
  r : Int
  g : Int
  b : Int
  q : Int
deriving DecidableEq
instance : Inhabited Cr := ⟨⟨0, 0, 0, 0⟩⟩
/-- Each part is a byte. -/
structure Cr.Ok (c : Cr) : Prop where
  r0 : 0 ≤ c.r
  r1 : c.r ≤ 255
  g0 : 0 ≤ c.g
  g1 : c.g ≤ 255
  b0 : 0 ≤ c.b
  b1 : c.b ≤ 255
  q0 : 0 ≤ c.q
  q1 : c.q ≤ 255
/-- One part, the share held already. -/
def mixh (a b p : Int) : Int := clamp (a + (b - a) * p / 65536) 0 255
def mix (x y : Cr) (p : Int) : Cr := ⟨mixh x.r y.r (hold p), mixh x.g y.g (hold p), mixh x.b y.b (hold p), mixh x.q y.q (hold p)⟩
def luma (c : Cr) : Int := (77 * c.r + 150 * c.g + 29 * c.b + 128) / 256
/-- A key of a colour: tick, colour, how, and the four numbers of its ease. -/
structure Ck where
  t : Int
  p : Cr
  h : Int
  a : Int
  b : Int
  c : Int
  d : Int
deriving DecidableEq
instance : Inhabited Ck := ⟨⟨0, default, 0, 0, 0, 0, 0⟩⟩
def ck (ks : List Ck) (i : Nat) : Ck := ks.getD i default
/-- The key without its colour. -/
def bare (k : Ck) : Ky := ⟨k.t, 0, k.h, k.a, k.b, k.c, k.d⟩
def bares (ks : List Ck) : List Ky := ks.map bare
def ctween (x y : Ck) (t : Int) : Cr := mix x.p y.p (goes x.h x.a x.b x.c x.d (prt x.t y.t t))
def atc (ks : List Ck) (t : Int) (no : Cr) : Cr :=
  if ks.length = 0 then no
  else if find (bares ks) t < 0 then (ck ks 0).p
  else if find (bares ks) t = (ks.length : Int) - 1 then (ck ks (find (bares ks) t).toNat).p
  else ctween (ck ks (find (bares ks) t).toNat) (ck ks ((find (bares ks) t).toNat + 1)) t

theorem clamp_byte (x : Int) : 0 ≤ clamp x 0 255 ∧ clamp x 0 255 ≤ 255 := by unfold clamp; split <;> (try split) <;> omega
theorem mixh_bd (a b p : Int) : 0 ≤ mixh a b p ∧ mixh a b p ≤ 255 := clamp_byte _
theorem mix_ok (x y : Cr) (p : Int) : (mix x y p).Ok :=
  ⟨(mixh_bd _ _ _).1, (mixh_bd _ _ _).2, (mixh_bd _ _ _).1, (mixh_bd _ _ _).2, (mixh_bd _ _ _).1, (mixh_bd _ _ _).2, (mixh_bd _ _ _).1, (mixh_bd _ _ _).2⟩
theorem clamp_self {a : Int} (h0 : 0 ≤ a) (h1 : a ≤ 255) : clamp a 0 255 = a := by unfold clamp; rw [if_neg (by omega), if_neg (by omega)]
theorem mixh_zero {a b : Int} (h0 : 0 ≤ a) (h1 : a ≤ 255) : mixh a b 0 = a := by
  unfold mixh; rw [Int.mul_zero, Int.zero_ediv, Int.add_zero]; exact clamp_self h0 h1
theorem mixh_one {a b : Int} (h0 : 0 ≤ b) (h1 : b ≤ 255) : mixh a b 65536 = b := by
  unfold mixh; rw [Int.mul_ediv_cancel _ (by decide), show a + (b - a) = b by omega]; exact clamp_self h0 h1
theorem mix_zero {x : Cr} (y : Cr) (h : x.Ok) : mix x y 0 = x := by
  unfold mix
  rw [show hold 0 = 0 from rfl, mixh_zero h.r0 h.r1, mixh_zero h.g0 h.g1, mixh_zero h.b0 h.b1, mixh_zero h.q0 h.q1]
theorem mix_one (x : Cr) {y : Cr} (h : y.Ok) : mix x y 65536 = y := by
  unfold mix
  rw [show hold 65536 = 65536 from rfl, mixh_one h.r0 h.r1, mixh_one h.g0 h.g1, mixh_one h.b0 h.b1, mixh_one h.q0 h.q1]
/-- What lies between two, by a share from 0 to One. -/
theorem way_in {d p : Int} (p0 : 0 ≤ p) (p1 : p ≤ 65536) : min 0 d ≤ d * p / 65536 ∧ d * p / 65536 ≤ max 0 d := by
  rcases Int.le_total 0 d with h | h
  · have a : d * p ≤ d * 65536 := Int.mul_le_mul_of_nonneg_left p1 h
    have b : 0 ≤ d * p := Int.mul_nonneg h p0
    omega
  · have a : (-d) * p ≤ (-d) * 65536 := Int.mul_le_mul_of_nonneg_left p1 (by omega)
    have b : 0 ≤ (-d) * p := Int.mul_nonneg (by omega) p0
    rw [Int.neg_mul] at a b
    omega
theorem mixh_in {a b p : Int} (a0 : 0 ≤ a) (a1 : a ≤ 255) (b0 : 0 ≤ b) (b1 : b ≤ 255) (p0 : 0 ≤ p) (p1 : p ≤ 65536) : min a b ≤ mixh a b p ∧ mixh a b p ≤ max a b := by
  obtain ⟨h1, h2⟩ := way_in (d := b - a) p0 p1
  unfold mixh
  rw [clamp_self (by omega) (by omega)]
  omega
theorem bares_length (ks : List Ck) : (bares ks).length = ks.length := by simp [bares]
theorem ky_bares (ks : List Ck) (i : Nat) : ky (bares ks) i = bare (ck ks i) := by
  unfold ky bares ck
  rw [List.getD_eq_getElem?_getD, List.getD_eq_getElem?_getD, List.getElem?_map]
  cases ks[i]? <;> rfl
theorem atc_cases (ks : List Ck) (t : Int) (no : Cr) (h : 0 < ks.length) : (find (bares ks) t = -1 ∧ atc ks t no = (ck ks 0).p) ∨
    (∃ i : Nat, find (bares ks) t = i ∧ i + 1 = ks.length ∧ atc ks t no = (ck ks i).p) ∨ (∃ i : Nat, find (bares ks) t = i ∧ i + 1 < ks.length ∧ atc ks t no = ctween (ck ks i) (ck ks (i + 1)) t) := by
  have hb := find_bd (bares ks) t
  rw [bares_length] at hb
  unfold atc
  rw [if_neg (by omega)]
  by_cases h0 : find (bares ks) t < 0
  · exact Or.inl ⟨by omega, if_pos h0⟩
  · rw [if_neg h0]
    obtain ⟨i, hi⟩ := Int.eq_ofNat_of_zero_le (show 0 ≤ find (bares ks) t by omega)
    rw [hi]
    by_cases h1 : i + 1 = ks.length
    · exact Or.inr (Or.inl ⟨i, rfl, h1, if_pos (by omega)⟩)
    · refine Or.inr (Or.inr ⟨i, rfl, by omega, ?_⟩)
      rw [if_neg (by omega)]
      rfl

end M
end Go.Proofs.Ytibgilaeepmheaa
