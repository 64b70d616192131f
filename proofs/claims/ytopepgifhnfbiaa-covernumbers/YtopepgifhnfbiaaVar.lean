/- For the law of Gen: what an operation that looks at one made value, or at none, yields; variables that are made and then stored into. No program is named here. -/
import Derived.Test.YtopepgifhnfbiaaGen
import Derived.Test.YtopepgifhnfbiaaT5
namespace Go.Proofs.Ytopepgifhnfbiaa
open Go Go.RowKit

section
variable {P : Program}
theorem gives_agree {ops : Array Oper} {o : Oper} {x y : Act} {w : World} {K : Value → World → Prop} (h : Agree ops o x y) (hs : ∀ cs b, o.op ≠ .select cs b) (hg : gives P o y w K) : gives P o x w K := by
  unfold gives at hg ⊢
  rw [h.exec hs]
  exact hg
/-- Operation o looks at no made value's slot. -/
def noneB (L : List Oper) (mk : List Nat) (o : Oper) : Bool := (o.looksAt L.toArray).all (fun d => mk.all fun j => dstAt L j != some d) && (match o.op with | .select .. => false | _ => true)
/-- Operation o looks at no made value's slot but that of k. -/
def oneB (L : List Oper) (mk : List Nat) (k : Nat) (o : Oper) : Bool :=
  (o.looksAt L.toArray).all (fun d => dstAt L k == some d || mk.all fun j => dstAt L j != some d) && mk.all (fun j => j == k || dstAt L j != dstAt L k) && (dstAt L k).isSome && (match o.op with | .select .. => false | _ => true)
section
variable {L : List Oper} {mk : List Nat} {o : Oper} {p : Nat} {G : Nat → Option Value} {e : Act}
theorem nosel {o : Oper} (h : (match o.op with | .select .. => false | _ => true) = true) : ∀ cs b, o.op ≠ .select cs b := fun cs b e => by rw [e] at h; cases h
theorem agree_none (h : noneB L mk o = true) (hGn : ∀ k, k ∉ mk → G k = none) : Agree L.toArray o (putV (dstAt L) G p e) e := fun d hd => by
  unfold noneB at h
  rw [Bool.and_eq_true] at h
  have h1 := List.all_eq_true.1 h.1 d hd
  refine putV_at e p fun k hk hkn he => ?_
  have hkm : k ∈ mk := by
    apply Classical.byContradiction
    intro hn
    exact hkn (hGn k hn)
  have := List.all_eq_true.1 h1 k hkm
  rw [he] at this
  simp at this
theorem gives_none {w : World} {K : Value → World → Prop} (h : noneB L mk o = true) (hGn : ∀ k, k ∉ mk → G k = none) (hg : gives P o e w K) : gives P o (putV (dstAt L) G p e) w K :=
  gives_agree (agree_none h hGn) (nosel (by unfold noneB at h; rw [Bool.and_eq_true] at h; exact h.2)) hg
theorem putV_val {D : Nat → Option Tmp} {k : Nat} {d : Tmp} {v : Value} (a : Act) (hG : G k = some v) (hD : D k = some d) : ∀ m, k < m → (∀ j, j < m → G j ≠ none → j ≠ k → D j ≠ some d) → (putV D G m a).tmps[d]? = (a.put (some d) v).tmps[d]? ∧ (putV D G m a).tmps.size = a.tmps.size
  | 0, h, _ => by omega
  | m + 1, h, hd => by
    have hsz : ∀ m, (putV D G m a).tmps.size = a.tmps.size := by
      intro m
      induction m with
      | zero => rfl
      | succ m ih =>
        unfold putV
        cases G m with
        | none => exact ih
        | some g' =>
          simp only
          cases D m with
          | none => exact ih
          | some x => simpa [Act.put] using ih
    refine ⟨?_, hsz _⟩
    by_cases e : k = m
    · subst e
      unfold putV
      rw [hG, hD]
      simp only [Act.put, Array.getElem?_setIfInBounds, if_true]
      rw [hsz]
    · have ih := (putV_val a hG hD m (by omega) (fun j hj => hd j (by omega))).1
      unfold putV
      cases hg : G m with
      | none => exact ih
      | some g =>
        simp only
        rw [← ih]
        have hn := hd m (by omega) (by rw [hg]; simp) (by omega)
        cases hdm : D m with
        | none => rfl
        | some x =>
          rw [hdm] at hn
          have : x ≠ d := fun ee => hn (by rw [ee])
          simp [Act.put, this]
theorem gives_one {w : World} {K : Value → World → Prop} {k : Nat} {v : Value} (h : oneB L mk k o = true) (hGn : ∀ k, k ∉ mk → G k = none) (hk : k < p) (hG : G k = some v) (hg : gives P o (e.put (dstAt L k) v) w K) : gives P o (putV (dstAt L) G p e) w K := by
  unfold oneB at h
  simp only [Bool.and_eq_true] at h
  obtain ⟨⟨⟨h1, h2⟩, h3⟩, h4⟩ := h
  have Gmk : ∀ k, G k ≠ none → k ∈ mk := fun k hk => by
    apply Classical.byContradiction
    intro hn
    exact hk (hGn k hn)
  obtain ⟨dk, hdk⟩ := Option.isSome_iff_exists.1 h3
  refine gives_agree (ops := L.toArray) (fun d hd => ?_) (nosel h4) hg
  have hl := List.all_eq_true.1 h1 d hd
  rw [Bool.or_eq_true] at hl
  by_cases e1 : dstAt L k = some d
  · rw [e1]
    refine (putV_val e hG e1 p hk fun j hj hjn hne he => ?_).1
    have := List.all_eq_true.1 h2 j (Gmk j hjn)
    rw [he, e1] at this
    simp [hne] at this
  · rcases hl with hl | hl
    · exact absurd (by simpa using hl) e1
    · rw [putV_at e p (fun j hj hjn he => by
        have := List.all_eq_true.1 hl j (Gmk j hjn)
        rw [he] at this
        simp at this)]
      rw [hdk] at e1 ⊢
      have : dk ≠ d := fun ee => e1 (by rw [ee])
      simp [Act.put, this]
end
end

/-- Variables that are made (number x.1) and stored into (number x.2.1). -/
structure Vars (B : Nat) (t : TypeId) (z : Array Value) (vs : List (Nat × Nat × Array Value)) (G : Nat → Option Value) (w : World) : Prop where
  has : ∀ x ∈ vs, ∀ v, G x.1 = some v → ∃ g, v = .pointer (some ⟨g, 0, none⟩) ∧ B ≤ g ∧ Has w g (if G x.2.1 = none then z else x.2.2) t
  ne : ∀ x ∈ vs, ∀ y ∈ vs, x.1 ≠ y.1 → ∀ v, G x.1 = some v → G y.1 ≠ some v
  late : ∀ x ∈ vs, G x.1 = none → G x.2.1 = none
section
variable {B : Nat} {t : TypeId} {z : Array Value} {vs : List (Nat × Nat × Array Value)} {G : Nat → Option Value} {w w' : World}
theorem Vars.stay (h : Vars B t z vs G w) (hb : Below w.heap.size w w') : Vars B t z vs G w' :=
  ⟨fun x hx v hv => by obtain ⟨g, e, hg, hh⟩ := h.has x hx v hv; exact ⟨g, e, hg, hh.below hb hh.lt⟩, h.ne, h.late⟩
theorem Vars.start : Vars B t z vs (fun _ => none) w := ⟨fun _ _ _ h => by (cases h), fun _ _ _ _ _ _ h => by (cases h), fun _ _ _ => rfl⟩
/-- No two have a number in common. -/
def varsB (vs : List (Nat × Nat × Array Value)) : Bool := vs.all fun x => vs.all fun y => x.1 != y.2.1 && ((x.1 == y.1) == (x.2.1 == y.2.1))
theorem Vars.alloc {i s : Nat} {cs : Array Value} (h : Vars B t z vs G w) (hv : varsB vs = true) (hx : (i, s, cs) ∈ vs) (hu : ∀ y ∈ vs, y.1 = i → y = (i, s, cs)) (hG : G i = none) (hB : B ≤ w.heap.size) : Vars B t z vs (updV G i (.pointer (some ⟨w.heap.size, 0, none⟩))) (w.alloc (.cells z t)) := by
  have hs : ∀ y ∈ vs, y.2.1 ≠ i := fun y hy e => by
    have := List.all_eq_true.1 (List.all_eq_true.1 hv _ hx) y hy
    simp [e] at this
  refine ⟨fun x hx' v hv' => ?_, fun x hx' y hy hne v h1 h2 => ?_, fun x hx' hn => ?_⟩
  · rw [updV_ne G _ (hs x hx')]
    by_cases e : x.1 = i
    · rw [e, updV_eq] at hv'
      cases hv'
      have := hu x hx' e
      subst this
      rw [if_pos (h.late _ hx' hG)]
      exact ⟨_, rfl, hB, has_new rfl⟩
    · rw [updV_ne G _ e] at hv'
      obtain ⟨g, e1, hg, hh⟩ := h.has x hx' v hv'
      exact ⟨g, e1, hg, hh.alloc _⟩
  · by_cases e : x.1 = i
    · by_cases e2 : y.1 = i
      · omega
      · rw [e, updV_eq] at h1
        rw [updV_ne G _ e2] at h2
        cases h1
        obtain ⟨g, e1, _, hh⟩ := h.has y hy _ h2
        have := hh.lt
        simp at e1
        try omega
    · by_cases e2 : y.1 = i
      · rw [updV_ne G _ e] at h1
        rw [e2, updV_eq] at h2
        cases h2
        obtain ⟨g, e1, _, hh⟩ := h.has x hx' _ h1
        have := hh.lt
        simp at e1
        try omega
      · rw [updV_ne G _ e] at h1
        rw [updV_ne G _ e2] at h2
        exact h.ne x hx' y hy hne v h1 h2
  · rw [updV_ne G _ (hs x hx')]
    by_cases e : x.1 = i
    · rw [e, updV_eq] at hn; cases hn
    · rw [updV_ne G _ e] at hn; exact h.late x hx' hn
theorem Vars.store {i s g : Nat} {a b za zb u : Value} (hz : z = #[za, zb]) (h : Vars B t z vs G w) (hv : varsB vs = true) (hx : (i, s, #[a, b]) ∈ vs) (hu : ∀ y ∈ vs, y.1 = i → y = (i, s, #[a, b])) (hi : G i = some (.pointer (some ⟨g, 0, none⟩))) (hG : G s = none) :
    Vars B t z vs (updV G s u) ((w.setCell ⟨g, 0, none⟩ a).setCell ⟨g, 1, none⟩ b) := by
  have hs : ∀ y ∈ vs, y.1 ≠ s := fun y hy e => by
    have := List.all_eq_true.1 (List.all_eq_true.1 hv y hy) _ hx
    simp [e] at this
  have hinj : ∀ y ∈ vs, y.2.1 = s → y.1 = i := fun y hy e => by
    have := List.all_eq_true.1 (List.all_eq_true.1 hv y hy) _ hx
    simp [e] at this
    exact this.2
  obtain ⟨g', eg, _, hh⟩ := h.has _ hx _ hi
  simp at eg
  subst eg
  rw [if_pos hG, hz] at hh
  have hnew : Has ((w.setCell ⟨g, 0, none⟩ a).setCell ⟨g, 1, none⟩ b) g #[a, b] t := by
    have := has_set (has_set hh 0 a) 1 b
    simpa using this
  refine ⟨fun x hx' v hv' => ?_, fun x hx' y hy hne v h1 h2 => ?_, fun x hx' hn => ?_⟩
  · rw [updV_ne G _ (hs x hx')] at hv'
    obtain ⟨g2, e1, hg2, hh2⟩ := h.has x hx' v hv'
    by_cases e : x.2.1 = s
    · have e2 := hinj x hx' e
      have := hu x hx' e2
      subst this
      rw [hi] at hv'
      cases hv'
      simp at e1
      subst e1
      rw [updV_eq, if_neg (by simp)]
      exact ⟨g, rfl, hg2, hnew⟩
    · rw [updV_ne G _ e]
      have hne : g2 ≠ g := fun eg => by
        subst eg
        by_cases e3 : x.1 = i
        · have := hu x hx' e3
          subst this
          exact e rfl
        · exact h.ne x hx' _ hx e3 v hv' (by rw [hi, e1])
      refine ⟨g2, e1, hg2, ?_⟩
      exact (heap_setCell_other _ ⟨g, _, none⟩ g2 _ (fun e => hne (by simpa using e))).trans ((heap_setCell_other _ ⟨g, _, none⟩ g2 _ (fun e => hne (by simpa using e))).trans hh2)
  · rw [updV_ne G _ (hs x hx')] at h1
    rw [updV_ne G _ (hs y hy)] at h2
    exact h.ne x hx' y hy hne v h1 h2
  · rw [updV_ne G _ (hs x hx')] at hn
    have := h.late x hx' hn
    by_cases e : x.2.1 = s
    · have e2 := hinj x hx' e
      rw [e2, hi] at hn
      cases hn
    · rw [updV_ne G _ e]; exact this
end

end Go.Proofs.Ytopepgifhnfbiaa
