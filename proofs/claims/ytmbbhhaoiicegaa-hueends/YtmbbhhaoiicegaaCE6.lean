/- Plain arithmetic of colour keys that rise: what they tell at a key's tick, ahead of all and behind all; that they are right where none is a curve. -/
import Derived.Test.YtmbbhhaoiicegaaRI6
namespace Go.Proofs.Ytmbbhhaoiicegaa
open Go.RowKit
open M

theorem Crise.lt {rs : List Ck} {A : Int} (h : Crise rs A) {i j : Nat} (hij : i < j) (hj : j < rs.length) : (ck rs i).t < (ck rs j).t := by
  induction j with
  | zero => omega
  | succ j ih =>
    have := h.up j hj
    by_cases e : i = j
    · subst e; exact this
    · have := ih (by omega) (by omega); omega
theorem Crise.le {rs : List Ck} {A : Int} (h : Crise rs A) {i j : Nat} (hij : i ≤ j) (hj : j < rs.length) : (ck rs i).t ≤ (ck rs j).t := by
  by_cases e : i = j
  · subst e; exact Int.le_refl _
  · have := h.lt (i := i) (j := j) (by omega) hj; omega
theorem bare_t (rs : List Ck) (i : Nat) : (ky (bares rs) i).t = (ck rs i).t := by rw [ky_bares]; rfl
theorem cfind_key {rs : List Ck} {n : Nat} (hn : n < rs.length) {t : Int} (h0 : (ck rs n).t ≤ t) (h1 : ∀ j, n < j → j < rs.length → t < (ck rs j).t) : find (bares rs) t = n := by
  have : ∀ m, n < m → m ≤ rs.length → findN (bares rs) t m = n := by
    intro m
    induction m with
    | zero => omega
    | succ m ih =>
      intro a b
      by_cases e : n = m
      · subst e; exact findN_hit (by rw [bare_t]; exact h0)
      · have := h1 m (by omega) (by omega)
        rw [findN_miss (by rw [bare_t]; omega)]
        exact ih (by omega) (by omega)
  unfold find
  rw [bares_length]
  exact this _ hn (Nat.le_refl _)
theorem cfind_none {rs : List Ck} {t : Int} (h : ∀ j, j < rs.length → t < (ck rs j).t) : find (bares rs) t = -1 := by
  have : ∀ m, m ≤ rs.length → findN (bares rs) t m = -1 := by
    intro m
    induction m with
    | zero => intro _; rfl
    | succ m ih =>
      intro b
      have := h m (by omega)
      rw [findN_miss (by rw [bare_t]; omega)]
      exact ih (by omega)
  unfold find
  rw [bares_length]
  exact this _ (Nat.le_refl _)
theorem atc_key {rs : List Ck} {A : Int} (h : Crise rs A) {n : Nat} (hn : n < rs.length) (no : Cr) : atc rs (ck rs n).t no = (ck rs n).p := by
  have hf := cfind_key hn (Int.le_refl _) (fun j a b => h.lt a b)
  rcases atc_cases rs (ck rs n).t no (by omega) with ⟨e1, _⟩ | ⟨i, e1, _, e2⟩ | ⟨i, e1, hi, e2⟩
  · omega
  · obtain rfl : n = i := by omega
    exact e2
  · obtain rfl : n = i := by omega
    rw [e2]
    unfold ctween
    rw [prt_self, goes_zero, mix_zero _ (h.ok n hn)]
theorem atc_ahead {rs : List Ck} {A : Int} (h : Crise rs A) (hn : 0 < rs.length) {t : Int} (ht : t < (ck rs 0).t) (no : Cr) : atc rs t no = (ck rs 0).p := by
  have hf := cfind_none (rs := rs) (t := t) (fun j hj => by have := h.le (i := 0) (j := j) (by omega) hj; omega)
  rcases atc_cases rs t no hn with ⟨_, e2⟩ | ⟨i, e1, _, e2⟩ | ⟨i, e1, hi, e2⟩
  · exact e2
  · omega
  · omega
theorem atc_behind {rs : List Ck} {m : Nat} (hm : m + 1 = rs.length) {t : Int} (ht : (ck rs m).t ≤ t) (no : Cr) : atc rs t no = (ck rs m).p := by
  have hf := cfind_key (n := m) (by omega) ht (fun j a b => by omega)
  rcases atc_cases rs t no (by omega) with ⟨e1, _⟩ | ⟨i, e1, _, e2⟩ | ⟨i, e1, hi, e2⟩
  · omega
  · obtain rfl : m = i := by omega
    exact e2
  · omega
theorem crise_right {rs : List Ck} {A : Int} (h : Crise rs A) (hs : ∀ j, j < rs.length → (ck rs j).h ≤ 1) : right (bares rs) = decide ((rs.length : Int) ≤ 32) := by
  have hA : A ≤ 400 := by have := h.top; have := h.few; omega
  have : ∀ m, m ≤ rs.length → rightN (bares rs) m = true := by
    intro m
    induction m with
    | zero => intro _; rfl
    | succ m ih =>
      intro b
      have a := ih (by omega)
      have t := h.tick m (by omega)
      have w0 := h.how m (by omega)
      have w1 := hs m (by omega)
      have e := h.plain m (by omega) (by omega)
      have k : okK (ky (bares rs) m) = true := by
        have k1 : okHow (ck rs m).h (ck rs m).a (ck rs m).b (ck rs m).c (ck rs m).d = true := by
          unfold okHow; rw [if_pos (by omega)]; simp [e]
        have k2 : okIn (ck rs m).t 1073741824 = true := by unfold okIn; simp; omega
        rw [ky_bares]
        show (okIn (ck rs m).t 1073741824 && okIn 0 67108864 && okHow (ck rs m).h (ck rs m).a (ck rs m).b (ck rs m).c (ck rs m).d) = true
        rw [k1, k2]
        rfl
      unfold rightN
      rw [a, k]
      by_cases hm : m = 0
      · simp [hm]
      · have u := h.lt (i := m - 1) (j := m) (by omega) (by omega)
        rw [bare_t, bare_t]
        simp [u]
  unfold right
  rw [bares_length, this _ (Nat.le_refl _), Bool.and_true]
  exact decide_eq_decide.2 (by omega)
theorem Crise.set {rs : List Ck} {A : Int} (h : Crise rs A) {n : Nat} {k : Ck} (hn : n < rs.length) (ht : k.t = (ck rs n).t) (hp : k.p = (ck rs n).p) (a1 : 0 ≤ k.h) (a2 : k.h ≤ 2) (a3 : k.h ≠ 2 → k.a = 0 ∧ k.b = 0 ∧ k.c = 0 ∧ k.d = 0) : Crise (rs.set n k) A := by
  have e : ∀ i, i < rs.length → (ck (rs.set n k) i).t = (ck rs i).t ∧ (ck (rs.set n k) i).p = (ck rs i).p := by
    intro i hi
    by_cases e : n = i
    · subst e; rw [ck_set_eq hn]; exact ⟨ht, hp⟩
    · rw [ck_set_ne e]; exact ⟨rfl, rfl⟩
  refine ⟨by simpa using h.few, by simpa using h.top, h.bot, ?_, ?_, ?_, ?_, ?_⟩
  · intro i hi
    rw [List.length_set] at hi
    rw [(e i hi).2]; exact h.ok i hi
  · intro i hi
    rw [List.length_set] at hi
    rw [(e i hi).1]; exact h.tick i hi
  · intro i hi
    rw [List.length_set] at hi
    by_cases e : n = i
    · subst e; rw [ck_set_eq hn]; exact ⟨a1, a2⟩
    · rw [ck_set_ne e]; exact h.how i hi
  · intro i hi
    rw [List.length_set] at hi
    by_cases e : n = i
    · subst e; rw [ck_set_eq hn]; exact a3
    · rw [ck_set_ne e]; exact h.plain i hi
  · intro i hi
    rw [List.length_set] at hi
    rw [(e i (by omega)).1, (e (i + 1) hi).1]; exact h.up i hi
theorem cends_put {w wr : World} {B g cap N n : Nat} {qs : List Ck} {A : Int} (hq : qs.length = N) (hn : n < N) (hrise : Crise qs A) (hst : ∀ j, j < n → (ck qs j).h ≤ 1) (hown : Cown wr B (.slice (some ⟨g, 0, none⟩) N cap) qs) (hb : Below B w wr) :
    ∃ qs : List Ck, qs.length = N ∧ Crise qs A ∧ (∀ j, j < n + 1 → (ck qs j).h ≤ 1) ∧
      Cown (((((wr.setCell ⟨g, n * 10 + 5, none⟩ (.int .i64 1)).setCell ⟨g, n * 10 + 6, none⟩ (.int .i64 0)).setCell ⟨g, n * 10 + 6 + 1, none⟩ (.int .i64 0)).setCell ⟨g, n * 10 + 6 + 2, none⟩ (.int .i64 0)).setCell ⟨g, n * 10 + 6 + 3, none⟩ (.int .i64 0)) B (.slice (some ⟨g, 0, none⟩) N cap) qs ∧
      Below B w (((((wr.setCell ⟨g, n * 10 + 5, none⟩ (.int .i64 1)).setCell ⟨g, n * 10 + 6, none⟩ (.int .i64 0)).setCell ⟨g, n * 10 + 6 + 1, none⟩ (.int .i64 0)).setCell ⟨g, n * 10 + 6 + 2, none⟩ (.int .i64 0)).setCell ⟨g, n * 10 + 6 + 3, none⟩ (.int .i64 0)) := by
  have hg := hown.base.1
  have h0 : Cown wr B (.slice (some ⟨g, 0, none⟩) N cap) (qs.set n (ck qs n)) := by rw [cset_self]; exact hown
  have h1 := h0.put' hq hn 5 _ (by decide) rfl 1
  have h2 := h1.put' hq hn 6 _ (by decide) rfl 0
  have h3 := h2.put' hq hn 7 (n * 10 + 6 + 1) (by decide) (by omega) 0
  have h4 := h3.put' hq hn 8 (n * 10 + 6 + 2) (by decide) (by omega) 0
  have h5 := h4.put' hq hn 9 (n * 10 + 6 + 3) (by decide) (by omega) 0
  refine ⟨qs.set n ⟨(ck qs n).t, (ck qs n).p, 1, 0, 0, 0, 0⟩, by simpa using hq, hrise.set (by omega) rfl rfl (by simp only; omega) (by simp only; omega) (fun _ => ⟨rfl, rfl, rfl, rfl⟩), ?_, h5, ((((hb.setCell hg _).setCell hg _).setCell hg _).setCell hg _).setCell hg _⟩
  intro j hj
  by_cases e : n = j
  · subst e; rw [ck_set_eq (by omega)]; simp only; omega
  · rw [ck_set_ne e]; exact hst j (by omega)

end Go.Proofs.Ytmbbhhaoiicegaa
