/- A law on regions that draw their order, for every program, wider than Make's: the first p operations are quiet ones, 'sk' (they yield one value in whatever world, and are taken first) and 'mk' (a new variable, or a call: it lays new blocks and yields some value of which a relation 'Reg' tells); behind them a tail of operations each of which waits for all that stand ahead of it: one walk in the text's order serves every order. Conditions: Bools over the region, reckoned by the kernel. -/
import Derived.Test.YtopepgifhnfbiaaMake
namespace Go.Proofs.Ytopepgifhnfbiaa
open Go Go.RowKit

section
variable {P : Program}

/-- The frame with the values that were made. -/
def putV (D : Nat → Option Tmp) (G : Nat → Option Value) : Nat → Act → Act
  | 0, a => a
  | m + 1, a => match G m with
    | some g => (putV D G m a).put (D m) g
    | none => putV D G m a
def updV (G : Nat → Option Value) (k : Nat) (g : Value) : Nat → Option Value := fun j => if j = k then some g else G j
theorem updV_eq (G : Nat → Option Value) (k : Nat) (g : Value) : updV G k g k = some g := by unfold updV; rw [if_pos rfl]
theorem updV_ne (G : Nat → Option Value) {k j : Nat} (g : Value) (h : j ≠ k) : updV G k g j = G j := by unfold updV; rw [if_neg h]
section
variable {D : Nat → Option Tmp} {G : Nat → Option Value}
theorem putV_put {y : Option Tmp} (u : Value) (a : Act) : ∀ m, (∀ k, k < m → G k ≠ none → ∀ d, D k = some d → y ≠ some d) → putV D G m (a.put y u) = (putV D G m a).put y u
  | 0, _ => rfl
  | m + 1, h => by
    have ih := putV_put u a m (fun k hk => h k (by omega))
    unfold putV
    cases hg : G m with
    | none => exact ih
    | some g =>
      simp only
      rw [ih]
      exact (Act.put_comm _ _ _ (h m (by omega) (by rw [hg]; simp))).symm
theorem putV_out {k : Nat} {g : Value} (a : Act) : ∀ m, m ≤ k → putV D (updV G k g) m a = putV D G m a
  | 0, _ => rfl
  | m + 1, h => by
    have ih := putV_out (k := k) (g := g) a m (by omega)
    unfold putV
    rw [updV_ne G g (by omega), ih]
theorem putV_upd {k : Nat} {g : Value} (a : Act) (hG : G k = none) : ∀ m, k < m → (∀ j, j < m → G j ≠ none → j ≠ k → ∀ d, D k = some d → D j ≠ some d) → putV D (updV G k g) m a = (putV D G m a).put (D k) g
  | 0, h, _ => by omega
  | m + 1, h, hD => by
    by_cases e : k = m
    · subst e
      unfold putV
      rw [putV_out a k (Nat.le_refl _), hG, updV_eq]
    · have ih := putV_upd (g := g) a hG m (by omega) (fun j hj => hD j (by omega))
      unfold putV
      rw [updV_ne G g (by omega), ih]
      cases hg : G m with
      | none => rfl
      | some g' => exact Act.put_comm _ _ _ (hD m (by omega) (by rw [hg]; simp) (by omega))
theorem putV_at {s : Tmp} (a : Act) : ∀ m, (∀ k, k < m → G k ≠ none → D k ≠ some s) → (putV D G m a).tmps[s]? = a.tmps[s]?
  | 0, _ => rfl
  | m + 1, h => by
    have ih := putV_at a m (fun k hk => h k (by omega))
    unfold putV
    cases hg : G m with
    | none => exact ih
    | some g =>
      simp only
      rw [← ih]
      have hn := h m (by omega) (by rw [hg]; simp)
      cases hd : D m with
      | none => rfl
      | some d =>
        rw [hd] at hn
        have : d ≠ s := fun e => hn (by rw [e])
        simp [Act.put, this]
theorem putV_congr {d : Tmp} {a b : Act} (hs : a.tmps.size = b.tmps.size) : ∀ m, (a.tmps[d]? = b.tmps[d]? ∨ ∃ k, k < m ∧ G k ≠ none ∧ D k = some d) → (putV D G m a).tmps[d]? = (putV D G m b).tmps[d]? ∧ (putV D G m a).tmps.size = (putV D G m b).tmps.size
  | 0, h => by
    rcases h with h | ⟨k, hk, _⟩
    · exact ⟨h, hs⟩
    · omega
  | m + 1, h => by
    unfold putV
    cases hg : G m with
    | none =>
      refine putV_congr hs m ?_
      rcases h with h | ⟨k, hk, h1, h2⟩
      · exact Or.inl h
      · refine Or.inr ⟨k, ?_, h1, h2⟩
        by_cases e : k = m
        · subst e; exact absurd hg h1
        · omega
    | some g =>
      simp only
      have hsz : (putV D G m a).tmps.size = (putV D G m b).tmps.size := by
        clear h
        clear hg
        induction m with
        | zero => exact hs
        | succ m ih =>
          unfold putV
          cases G m with
          | none => exact ih
          | some g' =>
            simp only
            cases D m with
            | none => exact ih
            | some x => simpa [Act.put] using ih
      cases hd : D m with
      | none =>
        refine putV_congr hs m ?_
        rcases h with h | ⟨k, hk, h1, h2⟩
        · exact Or.inl h
        · refine Or.inr ⟨k, ?_, h1, h2⟩
          by_cases e : k = m
          · subst e; rw [hd] at h2; cases h2
          · omega
      | some x =>
        by_cases e : x = d
        · subst e
          refine ⟨?_, by simpa [Act.put] using hsz⟩
          simp only [Act.put, Array.getElem?_setIfInBounds, if_true]
          rw [hsz]
        · have := putV_congr hs m (by
            rcases h with h | ⟨k, hk, h1, h2⟩
            · exact Or.inl h
            · refine Or.inr ⟨k, ?_, h1, h2⟩
              by_cases ee : k = m
              · subst ee; rw [hd] at h2; cases h2; exact absurd rfl e
              · omega)
          refine ⟨?_, by simpa [Act.put] using hsz⟩
          simpa [Act.put, e] using this.1
theorem putV_none (a : Act) : ∀ m, putV D (fun _ => none) m a = a
  | 0 => rfl
  | m + 1 => putV_none a m
end

/-- Two frames that agree where an operation looks. -/
def Agree (ops : Array Oper) (o : Oper) (x y : Act) : Prop := ∀ d, d ∈ o.looksAt ops → x.tmps[d]? = y.tmps[d]?
theorem Agree.exec {ops : Array Oper} {o : Oper} {x y : Act} (h : Agree ops o x y) (hs : ∀ cs b, o.op ≠ .select cs b) : execOp x.eval o = execOp y.eval o :=
  execOp_congr o hs fun z hz => by
    cases z with
    | tmp t =>
      have := h t (List.mem_append_left _ (List.mem_filterMap.2 ⟨.tmp t, by simpa using hz, rfl⟩))
      show x.tmps.getD t undef = y.tmps.getD t undef
      simp only [Array.getD_eq_getD_getElem?, this]
    | const v => rfl
    | global g => rfl
    | func f => rfl
theorem Agree.wanted {ops : Array Oper} {o : Oper} {x y : Act} (h : Agree ops o x y) : Region.wanted o (yielded ops x.tmps) = Region.wanted o (yielded ops y.tmps) := by
  unfold Region.wanted
  cases hg : o.guard with
  | none => rfl
  | some gb =>
    obtain ⟨g, b⟩ := gb
    simp only
    congr 1
    unfold yielded
    cases hd : (ops[g]?).bind (·.dst) with
    | none => rfl
    | some d =>
      have : d ∈ o.looksAt ops := List.mem_append_right _ (by rw [hg]; simp [hd])
      simp only [Option.bind_some, h d this]

/-- Operation o, in the frame e and the world w, yields a value of which K tells. -/
def gives (P : Program) (o : Oper) (e : Act) (w : World) (K : Value → World → Prop) : Prop :=
  match (execOp e.eval o).run P w with
  | .ok (.value v) w' => K v w'
  | .ok .skip w' => K undef w'
  | .ok (.enter f args) w' => Calls P f args w' fun r w'' => ∃ v, r = .returned v ∧ K v w''
  | _ => False

/-- The region with all but its quiet operations idle. -/
def lameG (p : Nat) (mk : List Nat) (L : List Oper) : List Oper := L.mapIdx fun i o => if i < p ∧ i ∉ mk then o else mute o
section
variable {p : Nat} {mk : List Nat} {L : List Oper}
theorem lameG_q {i : Nat} (h : i < p) (h2 : i ∉ mk) : (lameG p mk L)[i]? = L[i]? := by
  unfold lameG
  rw [List.getElem?_mapIdx]
  cases L[i]? with
  | none => rfl
  | some o => simp [h, h2]
theorem lameG_m {i : Nat} (h : ¬ (i < p ∧ i ∉ mk)) : (lameG p mk L)[i]? = (L[i]?).map mute := by
  unfold lameG
  rw [List.getElem?_mapIdx]
  cases L[i]? with
  | none => rfl
  | some o => simp only [Option.map_some]; rw [if_neg h]
theorem lameG_size : (lameG p mk L).length = L.length := by unfold lameG; simp
theorem lameG_ready (listed : Array Bool) : Region.ready .any (lameG p mk L).toArray listed = Region.ready .any L.toArray listed := by
  unfold Region.ready
  have hs : (lameG p mk L).toArray.size = L.toArray.size := by simp [lameG_size]
  rw [hs]
  congr 1
  funext i
  have h : ((lameG p mk L)[i]?).map (·.after) = (L[i]?).map (·.after) := by
    by_cases hi : i < p ∧ i ∉ mk
    · rw [lameG_q hi.1 hi.2]
    · rw [lameG_m hi]; cases L[i]? <;> rfl
  simp only [List.getElem?_toArray]
  cases h1 : (lameG p mk L)[i]? <;> cases h2 : L[i]? <;> simp [h1, h2] at h ⊢
  rw [h]
theorem lameG_wanted (o : Oper) (hg : ∀ g b, o.guard = some (g, b) → g < p ∧ g ∉ mk) (t : Array Value) : Region.wanted o (yielded (lameG p mk L).toArray t) = Region.wanted o (yielded L.toArray t) := by
  unfold Region.wanted
  cases h : o.guard with
  | none => rfl
  | some gb =>
    obtain ⟨g, b⟩ := gb
    simp only
    congr 1
    unfold yielded
    simp only [List.getElem?_toArray]
    rw [lameG_q (hg g b h).1 (hg g b h).2]
end

theorem sizes {C : World → Prop} {e : Act} {ops : Array Oper} : ∀ (fuel : Nat) (listed : Array Bool) (x : Act), wpAnyQ P .any ops C (fun x => x = e) fuel listed x → x.tmps.size = e.tmps.size
  | 0, _, x, h => by rw [show x = e from h.2]
  | fuel + 1, listed, x, h => by
    cases hr : Region.ready .any ops listed with
    | nil => rw [show x = e from h.1 hr]
    | cons i r =>
      have hi : i ∈ Region.ready .any ops listed := by rw [hr]; exact List.mem_cons_self
      obtain ⟨hu, o, ho, _⟩ := mem_ready.1 hi
      have on : ∀ v, wpAnyQ P .any ops C (fun x => x = e) fuel (listed.setIfInBounds i true) (x.put o.dst v) → x.tmps.size = e.tmps.size := fun v hv => by
        rw [← sizes fuel _ _ hv]
        cases o.dst <;> simp [Act.put]
      have hq := h.2 i hi
      unfold qOp at hq
      rw [ho] at hq
      simp only at hq
      split at hq
      · obtain ⟨v, _, hk⟩ := hq; exact on v hk
      · exact on _ hq
/-- The facts on a region's form. -/
structure GForm (p : Nat) (mk sk : List Nat) (L : List Oper) : Prop where
  len : p < L.length
  mlt : ∀ i, i ∈ mk → i < p
  slt : ∀ i, i ∈ sk → i < p ∧ i ∉ mk
  order : ∀ i o, L[i]? = some o → ∀ e ∈ o.after, Region.binds .any e = true → e.on < i
  tail : ∀ i o, p ≤ i → L[i]? = some o → coverGo sk L i [o] = true
  apart : ∀ i o k ok, i < p → i ∉ mk → k ∈ mk → L[i]? = some o → L[k]? = some ok → ∀ d, ok.dst = some d → d ∉ o.looksAt L.toArray ∧ o.dst ≠ some d
  looks : ∀ k ok j oj, k ∈ mk → L[k]? = some ok → j < p → j ∉ mk → L[j]? = some oj → ∀ d, oj.dst = some d → d ∈ ok.looksAt L.toArray → bindsOn ok j = true
  guards : ∀ i o, i < p → i ∉ mk → L[i]? = some o → ∀ g b, o.guard = some (g, b) → g < p ∧ g ∉ mk
  differ : ∀ (i j : Nat) (o o' : Oper), i < j → j < p → L[i]? = some o → L[j]? = some o' → ∀ d, o.dst = some d → o'.dst ≠ some d
  sel : ∀ i o cs b, i < p → L[i]? = some o → o.op ≠ .select cs b
section
variable {p : Nat} {mk sk : List Nat} {L : List Oper}

theorem any_of_tailG (F : GForm p mk sk L) {C : World → Prop} {Q0 : Act → Prop} {Q : Exit → Act → World → Prop} :
    ∀ (fuel : Nat) (q : Nat) (listed : Array Bool) (a0 x : Act) (w : World), p ≤ q → q ≤ L.length → listed.size = L.length → Closed L listed → (∀ i, i < q → listed.getD i true = true) → (∀ i, q ≤ i → i < L.length → listed.getD i true = false) →
      wpAnyQ P .any (lameG p mk L).toArray C Q0 fuel listed a0 → wpList P L.toArray Q (L.drop q) x w → wpAny P .any L.toArray Q fuel listed x w := by
  intro fuel
  induction fuel with
  | zero =>
    intro q listed a0 x w hp hpl hsz hc hl hu h hw
    have h0 := h.1
    rw [lameG_ready] at h0
    by_cases e : q = L.length
    · subst e
      rw [List.drop_length] at hw
      exact wpAny_done h0 0 x w hw
    · exact absurd h0 (ready_some hsz F.order q (by omega) (hu q (Nat.le_refl _) (by omega)))
  | succ fuel ih =>
    intro q listed a0 x w hp hpl hsz hc hl hu h hw
    by_cases e : q = L.length
    · subst e
      rw [List.drop_length] at hw
      have h0 : Region.ready .any L.toArray listed = [] := by
        apply List.eq_nil_iff_forall_not_mem.2
        intro j hj
        obtain ⟨hju, oj, hoj, _⟩ := mem_ready.1 hj
        have hlt : j < L.length := by have := (Array.getElem?_eq_some_iff.1 hoj).1; simpa using this
        rw [hl j hlt] at hju
        cases hju
      exact wpAny_done h0 _ x w hw
    · refine ⟨fun h0 => absurd h0 (ready_some hsz F.order q (by omega) (hu q (Nat.le_refl _) (by omega))), fun i hi => ?_⟩
      obtain ⟨hiu, o, ho, hall⟩ := mem_ready.1 hi
      have ho' : L[i]? = some o := by simpa using ho
      have hge : q ≤ i := by
        rcases Nat.lt_or_ge i q with g | g
        · rw [hl i g] at hiu; cases hiu
        · exact g
      have hskl : ∀ j, j ∈ sk → listed.getD j false = true := fun j hj => getD_of' (by have := (F.slt j hj).1; have := F.len; omega) (hl j (by have := (F.slt j hj).1; omega))
      have hcv := cover hc hskl i [o] (F.tail i o (by omega) ho') (fun x hx => by rw [List.mem_singleton.1 hx]; exact hall)
      have hip : i = q := by
        rcases Nat.lt_or_ge q i with g | g
        · have := hcv q g
          rw [not_listed (hu q (Nat.le_refl _) (by omega))] at this
          cases this
        · omega
      subst hip
      have hd : L.drop i = o :: L.drop (i + 1) := by
        rw [List.drop_eq_getElem_cons (by omega)]
        congr 1
        exact (List.getElem?_eq_some_iff.1 ho').2
      rw [hd] at hw
      have hq := h.2 i (by rw [lameG_ready]; exact hi)
      have hi' : (lameG p mk L).toArray[i]? = some (mute o) := by simp only [List.getElem?_toArray]; rw [lameG_m (by omega), ho']; rfl
      have hK : wpAnyQ P .any (lameG p mk L).toArray C Q0 fuel (listed.setIfInBounds i true) a0 := by
        unfold qOp at hq
        rw [hi'] at hq
        have e : ∀ v, a0.put (mute o).dst v = a0 := fun v => rfl
        simp only at hq
        split at hq
        · obtain ⟨v, _, hk⟩ := hq; rw [e] at hk; exact hk
        · rw [e] at hq; exact hq
      have on : ∀ x' w', wpList P L.toArray Q (L.drop (i + 1)) x' w' → wpAny P .any L.toArray Q fuel (listed.setIfInBounds i true) x' w' := fun x' w' hx =>
        ih (i + 1) _ a0 x' w' (by omega) (by omega) (by simpa using hsz) (hc.set hi) (fun j hj => by
          by_cases ej : i = j
          · subst ej; exact getD_set_eq (by omega) _
          · rw [getD_set_ne true ej]; exact hl j (by omega)) (fun j hj hj2 => by rw [getD_set_ne true (by omega)]; exact hu j (by omega) hj2) hK hx
      unfold wpOp
      rw [ho]
      have hw' : if Region.wanted o (yielded L.toArray x.tmps) then o.wp P x w (wpList P L.toArray Q (L.drop (i + 1))) Q ∨ (o.asks P x w ∧ LetsOut Q) else wpList P L.toArray Q (L.drop (i + 1)) (x.put o.dst undef) w := hw
      simp only
      split
      · rename_i hwn; rw [if_pos hwn] at hw'
        exact hw'.imp (Oper.wp_mono fun a' w' h' => on a' w' h') id
      · rename_i hwn; rw [if_neg hwn] at hw'
        exact on _ _ hw'

/-- A made value's slot. -/
def dstAt (L : List Oper) (i : Nat) : Option Tmp := (L[i]?).bind (·.dst)
theorem any_of_gen (F : GForm p mk sk L) {W : World} {e : Act} {Q : Exit → Act → World → Prop} {Rl : (Nat → Option Value) → World → Prop} (hst : ∀ G, Stays (Rl G))
    (hO : ∀ i o, i ∈ mk → L[i]? = some o → ∀ (G : Nat → Option Value) (w : World), G i = none → (∀ k, k ∉ mk → G k = none) → (∀ k, k ∈ mk → bindsOn o k = true → G k ≠ none) → Below W.heap.size W w → Rl G w → Region.wanted o (yielded L.toArray (putV (dstAt L) G p e).tmps) = true ∧ gives P o (putV (dstAt L) G p e) w fun v w' => Below W.heap.size W w' ∧ Rl (updV G i v) w')
    (hfin : ∀ (G : Nat → Option Value) (w : World), Below W.heap.size W w → Rl G w → (∀ i, i ∈ mk → ∃ v, G i = some v) → (∀ i, i ∉ mk → G i = none) → wpList P L.toArray Q (L.drop p) (putV (dstAt L) G p e) w) :
    ∀ (fuel : Nat) (listed : Array Bool) (a0 : Act) (G : Nat → Option Value) (w : World), listed.size = L.length → Closed L listed → (∀ i, i ∈ sk → listed.getD i false = true) →
      (∀ R, Stays R → Nonempty (LaterR W R) → wpAnyQ P .any (lameG p mk L).toArray (Cls W R) (fun x => x = e) fuel listed a0) → Below W.heap.size W w → Rl G w →
      (∀ i, i ∈ mk → (G i = none ↔ listed.getD i true = false)) → (∀ i, i ∉ mk → G i = none) → (∀ i, p ≤ i → i < L.length → listed.getD i true = false) → wpAny P .any L.toArray Q fuel listed (putV (dstAt L) G p a0) w := by
  have hlen := F.len
  intro fuel
  induction fuel with
  | zero =>
    intro listed a0 G w hsz hc hsk H hb hG hGl hGn hu
    have h0 := (H _ (hst G) ⟨⟨w, hb, hG⟩⟩).1
    rw [lameG_ready] at h0
    exact absurd h0 (ready_some hsz F.order p hlen (hu _ (Nat.le_refl _) hlen))
  | succ fuel ih =>
    intro listed a0 G w hsz hc hsk H hb hG hGl hGn hu
    have HR := H _ (hst G) ⟨⟨w, hb, hG⟩⟩
    by_cases htl : ∀ i, i < p → listed.getD i true = true
    · have ea : a0 = e := by
        refine fins (fuel + 1) listed a0 (fun j o hj hl => ?_) HR
        have hjm : p ≤ j := by
          rcases Nat.lt_or_ge j p with g | g
          · rw [htl j g] at hl; cases hl
          · exact g
        simp only [List.getElem?_toArray] at hj
        rw [lameG_m (by omega)] at hj
        cases hL : L[j]? with
        | none => rw [hL] at hj; cases hj
        | some o' => rw [hL] at hj; cases hj; rfl
      subst ea
      refine any_of_tailG F (fuel + 1) p listed a0 _ w (Nat.le_refl _) (by omega) hsz hc htl hu HR (hfin G w hb hG (fun k hk => ?_) hGn)
      cases hg : G k with
      | none => have := (hGl k hk).1 hg; rw [htl _ (F.mlt k hk)] at this; cases this
      | some g => exact ⟨g, rfl⟩
    · refine ⟨fun h0 => absurd h0 (ready_some hsz F.order p hlen (hu _ (Nat.le_refl _) hlen)), fun i hi => ?_⟩
      obtain ⟨hiu, o, ho, hall⟩ := mem_ready.1 hi
      have ho' : L[i]? = some o := by simpa using ho
      have hil : i < L.length := (List.getElem?_eq_some_iff.1 ho').1
      have hq := HR.2 i (by rw [lameG_ready]; exact hi)
      have Gmk : ∀ k, G k ≠ none → k ∈ mk := fun k hk => by
        apply Classical.byContradiction
        intro hn
        exact hk (hGn k hn)
      rcases Nat.lt_or_ge i p with him | him
      · have hu' : ∀ j, p ≤ j → j < L.length → (listed.setIfInBounds i true).getD j true = false := fun j h1 h2 => by rw [getD_set_ne true (by omega)]; exact hu j h1 h2
        have keep : ∀ j o', (lameG p mk L).toArray[j]? = some o' → (listed.setIfInBounds i true).getD j true = false → ∀ d, o.dst = some d → o'.dst ≠ some d := fun j o' hj hl d hd => by
          have hji : j ≠ i := fun ej => by subst ej; rw [getD_set_eq (by omega)] at hl; cases hl
          simp only [List.getElem?_toArray] at hj
          by_cases hjq : j < p ∧ j ∉ mk
          · rw [lameG_q hjq.1 hjq.2] at hj
            rcases Nat.lt_or_gt_of_ne hji with g | g
            · intro h2; exact F.differ j i o' o g him hj ho' d h2 hd
            · exact F.differ i j o o' g hjq.1 ho' hj d hd
          · rw [lameG_m hjq] at hj
            cases hL : L[j]? with
            | none => rw [hL] at hj; cases hj
            | some o2 => rw [hL] at hj; cases hj; intro h2; cases h2
        by_cases himk : i ∈ mk
        · -- one that makes
          have hGn' : G i = none := (hGl i himk).2 hiu
          have hk : ∀ R, Stays R → Nonempty (LaterR W R) → wpAnyQ P .any (lameG p mk L).toArray (Cls W R) (fun x => x = e) fuel (listed.setIfInBounds i true) a0 := fun R hR hN => by
            have hq2 := (H R hR hN).2 i (by rw [lameG_ready]; exact hi)
            unfold qOp at hq2
            rw [show (lameG p mk L).toArray[i]? = some (mute o) by simp only [List.getElem?_toArray]; rw [lameG_m (fun h => h.2 himk), ho']; rfl] at hq2
            simp only at hq2
            split at hq2
            · obtain ⟨v, _, h2⟩ := hq2; exact h2
            · exact hq2
          have hag : Agree L.toArray o (putV (dstAt L) G p a0) (putV (dstAt L) G p e) := fun d hd => by
            refine (putV_congr (sizes (fuel + 1) listed a0 HR) p ?_).1
            by_cases hmade : ∃ k, k < p ∧ G k ≠ none ∧ dstAt L k = some d
            · exact Or.inr hmade
            · refine Or.inl (keeps (fuel + 1) listed a0 (fun j oj hj hl he => ?_) HR)
              simp only [List.getElem?_toArray] at hj
              by_cases hjq : j < p ∧ j ∉ mk
              · rw [lameG_q hjq.1 hjq.2] at hj
                have hb := F.looks i o j oj himk ho' hjq.1 hjq.2 hj d he hd
                unfold bindsOn at hb
                obtain ⟨ed, hed, h5⟩ := Array.any_eq_true'.1 hb
                simp only [Bool.and_eq_true, beq_iff_eq] at h5
                have := hall ed hed h5.1
                rw [h5.2, not_listed hl] at this
                cases this
              · rw [lameG_m hjq] at hj
                cases hL : L[j]? with
                | none => rw [hL] at hj; cases hj
                | some o2 => rw [hL] at hj; cases hj; cases he
          have hdeps : ∀ k, k ∈ mk → bindsOn o k = true → G k ≠ none := fun k hkm hbk hgn => by
            unfold bindsOn at hbk
            obtain ⟨ed, hed, h5⟩ := Array.any_eq_true'.1 hbk
            simp only [Bool.and_eq_true, beq_iff_eq] at h5
            have h6 := hall ed hed h5.1
            rw [h5.2, not_listed ((hGl k hkm).1 hgn)] at h6
            cases h6
          obtain ⟨hwn, hgv⟩ := hO i o himk ho' G w hGn' hGn hdeps hb hG
          have on : ∀ v w', Below W.heap.size W w' → Rl (updV G i v) w' → wpAny P .any L.toArray Q fuel (listed.setIfInBounds i true) ((putV (dstAt L) G p a0).put o.dst v) w' := fun v w' hbw hr => by
            have ed : o.dst = dstAt L i := by unfold dstAt; rw [ho']; rfl
            have ep : (putV (dstAt L) G p a0).put o.dst v = putV (dstAt L) (updV G i v) p a0 := by
              rw [ed, putV_upd a0 hGn' p him (fun j hj hjn hne d hd hd' => ?_)]
              have hjm := Gmk j hjn
              unfold dstAt at hd'
              cases hL : L[j]? with
              | none => rw [hL] at hd'; cases hd'
              | some oj =>
                rw [hL] at hd'
                rw [← ed] at hd
                rcases Nat.lt_or_gt_of_ne hne with g | g
                · exact F.differ j i oj o g him hL ho' d hd' hd
                · exact F.differ i j o oj g hj ho' hL d hd hd'
            rw [ep]
            refine ih _ _ _ _ (by simpa using hsz) (hc.set hi) (fun j hj => getD_up (hsk j hj)) hk hbw hr (fun j hj => ?_) (fun j hj => ?_) hu'
            · by_cases ej : j = i
              · subst ej
                rw [updV_eq, getD_set_eq (by omega)]
                simp
              · rw [updV_ne G v ej, getD_set_ne true (by omega)]
                exact hGl j hj
            · rw [updV_ne G v (fun ej => hj (by rw [ej]; exact himk))]
              exact hGn j hj
          unfold wpOp
          rw [ho]
          simp only
          rw [if_pos (by rw [hag.wanted]; exact hwn)]
          refine .inl ?_
          unfold Oper.wp
          rw [hag.exec (fun cs b => F.sel i o cs b him ho')]
          unfold gives at hgv
          generalize (execOp (putV (dstAt L) G p e).eval o).run P w = r at *
          cases r with
          | ok nx w' =>
            cases nx <;> simp only at hgv <;> simp only [Oper.upon]
            case value u => exact on u w' hgv.1 hgv.2
            case skip => exact on undef w' hgv.1 hgv.2
            case enter f args => exact hgv.mono fun r w'' ⟨v, hv, h1, h2⟩ => by subst hv; exact on v w'' h1 h2
          | halt x w' => simp only at hgv
        · -- a quiet one
          have hlook : Agree L.toArray o (putV (dstAt L) G p a0) a0 := fun d hd => putV_at a0 p (fun k hk hkn he => by
            have hkm := Gmk k hkn
            unfold dstAt at he
            cases hL : L[k]? with
            | none => rw [hL] at he; cases he
            | some ok =>
              rw [hL] at he
              exact (F.apart i o k ok him himk hkm ho' hL d he).1 hd)
          have hput : ∀ k, k < p → G k ≠ none → ∀ d, dstAt L k = some d → o.dst ≠ some d := fun k hk hkn d he => by
            have hkm := Gmk k hkn
            unfold dstAt at he
            cases hL : L[k]? with
            | none => rw [hL] at he; cases he
            | some ok =>
              rw [hL] at he
              exact (F.apart i o k ok him himk hkm ho' hL d he).2
          have same : ∀ v, wpAnyQ P .any (lameG p mk L).toArray (Cls W (Rl G)) (fun x => x = e) fuel (listed.setIfInBounds i true) (a0.put o.dst v) →
              ∀ R, Stays R → Nonempty (LaterR W R) → wpAnyQ P .any (lameG p mk L).toArray (Cls W R) (fun x => x = e) fuel (listed.setIfInBounds i true) (a0.put o.dst v) := fun v hv R hR hN => by
            have hq2 := (H R hR hN).2 i (by rw [lameG_ready]; exact hi)
            have go : ∀ u, wpAnyQ P .any (lameG p mk L).toArray (Cls W R) (fun x => x = e) fuel (listed.setIfInBounds i true) (a0.put o.dst u) → wpAnyQ P .any (lameG p mk L).toArray (Cls W R) (fun x => x = e) fuel (listed.setIfInBounds i true) (a0.put o.dst v) := fun u hk => by
              have e1 : a0.put o.dst u = a0.put o.dst v := put_eq fun d hd => by
                rw [keeps fuel _ _ (fun j o' hj hl => keep j o' hj hl d hd) hk, keeps fuel _ _ (fun j o' hj hl => keep j o' hj hl d hd) hv]
              rw [← e1]
              exact hk
            unfold qOp at hq2
            rw [show (lameG p mk L).toArray[i]? = some o by simp only [List.getElem?_toArray]; rw [lameG_q him himk]; exact ho'] at hq2
            simp only at hq2
            split at hq2
            · obtain ⟨u, _, hk⟩ := hq2; exact go u hk
            · exact go _ hq2
          have on : ∀ v w', Cls W (Rl G) w' → wpAnyQ P .any (lameG p mk L).toArray (Cls W (Rl G)) (fun x => x = e) fuel (listed.setIfInBounds i true) (a0.put o.dst v) →
              wpAny P .any L.toArray Q fuel (listed.setIfInBounds i true) ((putV (dstAt L) G p a0).put o.dst v) w' := fun v w' hw' hk => by
            obtain ⟨z, rfl⟩ := hw'
            rw [← putV_put v a0 p hput]
            refine ih _ _ G _ (by simpa using hsz) (hc.set hi) (fun j hj => getD_up (hsk j hj)) (same v hk) z.below z.reg (fun k hk => ?_) hGn hu'
            rw [getD_set_ne true (fun ee => himk (by rw [ee]; exact hk))]
            exact hGl k hk
          unfold qOp at hq
          rw [show (lameG p mk L).toArray[i]? = some o by simp only [List.getElem?_toArray]; rw [lameG_q him himk]; exact ho'] at hq
          unfold wpOp
          rw [ho]
          simp only at hq ⊢
          rw [lameG_wanted o (fun g b h => F.guards i o him himk ho' g b h)] at hq
          rw [hlook.wanted]
          split at hq
          · rename_i hwn
            rw [if_pos hwn]
            refine .inl ?_
            obtain ⟨v, h1, h2⟩ := hq
            have h3 := h1 w ⟨⟨w, hb, hG⟩, rfl⟩
            unfold Oper.quietAt at h3
            unfold Oper.wp
            rw [hlook.exec (fun cs b => F.sel i o cs b him ho')]
            generalize (execOp a0.eval o).run P w = r at *
            cases r with
            | ok nx w' =>
              cases nx <;> simp only [Oper.quietUpon] at h3 <;> simp only [Oper.upon]
              case value u =>
                obtain ⟨e1, e2⟩ := h3
                rw [e1, e2]
                exact on v w ⟨⟨w, hb, hG⟩, rfl⟩ h2
              case skip =>
                obtain ⟨e1, e2⟩ := h3
                rw [e1, ← e2]
                exact on v w ⟨⟨w, hb, hG⟩, rfl⟩ h2
              case enter f args =>
                obtain ⟨e1, hcl⟩ := h3
                rw [e1]
                exact hcl.mono fun e w'' ⟨he, hw''⟩ => by subst he; exact on v w'' hw'' h2
            | halt x w' => simp only [Oper.quietUpon] at h3
          · rename_i hwn
            rw [if_neg hwn]
            exact on _ w ⟨⟨w, hb, hG⟩, rfl⟩ hq
      · exfalso
        apply htl
        intro j hj
        have hcv := cover hc hsk i [o] (F.tail i o him ho') (fun x hx => by rw [List.mem_singleton.1 hx]; exact hall)
        exact getD_of (hcv j (by omega))
end

def genB (p : Nat) (mk sk : List Nat) (L : List Oper) : Bool :=
  decide (p < L.length) && mk.all (fun i => decide (i < p)) && sk.all (fun i => decide (i < p) && !mk.contains i)
  && ((List.range L.length).all fun i => (((L[i]?).map fun o => o.after.all fun e => !Region.binds .any e || decide (e.on < i)).getD true))
  && ((List.range L.length).all fun i => decide (i < p) || (((L[i]?).map fun o => coverGo sk L i [o]).getD true))
  && ((List.range p).all fun i => mk.contains i || mk.all fun k => (match L[i]?, L[k]? with | some o, some ok => (match ok.dst with | some d => !(o.looksAt L.toArray).contains d && o.dst != some d | none => true) | _, _ => true))
  && (mk.all fun k => (List.range p).all fun j => mk.contains j || (match L[k]?, L[j]? with | some ok, some oj => (match oj.dst with | some d => !(ok.looksAt L.toArray).contains d || bindsOn ok j | none => true) | _, _ => true))
  && ((List.range p).all fun i => mk.contains i || (((L[i]?).map fun o => (match o.guard with | some (g, _) => decide (g < p) && !mk.contains g | none => true)).getD true))
  && ((List.range p).all fun j => (List.range j).all fun i => (match (L[i]?).bind (·.dst), (L[j]?).bind (·.dst) with | some d, some d' => d != d' | _, _ => true))
  && ((List.range p).all fun i => (((L[i]?).map fun o => (match o.op with | .select .. => false | _ => true)).getD true))
theorem gform_of {p : Nat} {mk sk : List Nat} {L : List Oper} (h : genB p mk sk L = true) : GForm p mk sk L := by
  simp only [genB, Bool.and_eq_true] at h
  obtain ⟨⟨⟨⟨⟨⟨⟨⟨⟨h1, h2⟩, h3⟩, h4⟩, h5⟩, h6⟩, h7⟩, h8⟩, h9⟩, h10⟩ := h
  have hlt : ∀ {i : Nat} {o : Oper}, L[i]? = some o → i < L.length := fun h => (List.getElem?_eq_some_iff.1 h).1
  refine ⟨by simpa using h1, fun i hi => by simpa using List.all_eq_true.1 h2 i hi, fun i hi => by simpa using List.all_eq_true.1 h3 i hi, fun i o hio e he hb => ?_, fun i o hi hio => ?_, fun i o k ok hi him hk hio hko d hd => ?_, fun k ok j oj hk hko hj hjm hjo d hd hl => ?_, fun i o hi him hio g b hg => ?_, fun i j o o' hij hjm hi hj d hd hd' => ?_, fun i o cs b hi hio => ?_⟩
  · have h := List.all_eq_true.1 h4 i (List.mem_range.2 (hlt hio))
    rw [hio] at h
    simp only [Option.map_some, Option.getD_some] at h
    have h5 := Array.all_eq_true_iff_forall_mem.1 h e he
    simpa [hb] using h5
  · have h := List.all_eq_true.1 h5 i (List.mem_range.2 (hlt hio))
    rw [hio] at h
    simp only [Option.map_some, Option.getD_some, Bool.or_eq_true, decide_eq_true_eq] at h
    rcases h with h | h
    · omega
    · exact h
  · have h := List.all_eq_true.1 h6 i (List.mem_range.2 hi)
    rw [Bool.or_eq_true] at h
    rcases h with h | h
    · exact absurd (by simpa using h) him
    · have h := List.all_eq_true.1 h k hk
      rw [hio, hko] at h
      simp only [hd, Bool.and_eq_true, Bool.not_eq_true', bne_iff_ne] at h
      exact ⟨by simpa using h.1, h.2⟩
  · have h := List.all_eq_true.1 (List.all_eq_true.1 h7 k hk) j (List.mem_range.2 hj)
    rw [hko, hjo] at h
    simp only [hd, Bool.or_eq_true, Bool.not_eq_true'] at h
    rcases h with h | h | h
    · exact absurd (by simpa using h) hjm
    · exact absurd hl (by simpa using h)
    · exact h
  · have h := List.all_eq_true.1 h8 i (List.mem_range.2 hi)
    rw [hio] at h
    simp only [Option.map_some, Option.getD_some, hg, Bool.or_eq_true] at h
    rcases h with h | h
    · exact absurd (by simpa using h) him
    · simpa using h
  · have h := List.all_eq_true.1 (List.all_eq_true.1 h9 j (List.mem_range.2 hjm)) i (List.mem_range.2 hij)
    rw [hi, hj] at h
    simp only [Option.bind_some, hd, hd'] at h
    simp at h
  · have h := List.all_eq_true.1 h10 i (List.mem_range.2 hi)
    rw [hio] at h
    intro e
    simp [e] at h

/-- The quiet operations of a region: 0 in 'ks' stands for one. -/
def quietL : List Nat → List Oper → List Oper
  | _, [] => []
  | [], _ :: _ => []
  | 0 :: ks, o :: l => o :: quietL ks l
  | (_ + 1) :: ks, _ :: l => quietL ks l
/-- The region's operations but those of 'sk', the quiet ones as they are, the others idle. -/
def fullL : List Nat → List Oper → List Oper
  | _, [] => []
  | [], o :: l => mute o :: fullL [] l
  | 0 :: ks, o :: l => o :: fullL ks l
  | 1 :: ks, o :: l => mute o :: fullL ks l
  | (_ + 2) :: ks, _ :: l => fullL ks l
theorem mute_quiet {ops : Array Oper} {C : World → Prop} {Q : Act → Prop} {o : Oper} {r : List Oper} {a : Act} (h : wpQuiet P ops C Q r a) : wpQuiet P ops C Q (mute o :: r) a := by
  show if Region.wanted (mute o) (yielded ops a.tmps) then (mute o).quiet P a C (wpQuiet P ops C Q r) else wpQuiet P ops C Q r (a.put (mute o).dst undef)
  split
  · exact BigFrame.quiet_move (.const undef) rfl h
  · exact h
theorem quiet_full {p : Nat} {mk : List Nat} {L : List Oper} {C : World → Prop} {e : Act} : ∀ (ks : List Nat) (l : List Oper) (a : Act), (∀ o ∈ quietL ks l, ∀ g b, o.guard = some (g, b) → g < p ∧ g ∉ mk) →
    wpQuiet P L.toArray C (fun x => x = e) (quietL ks l) a → wpQuiet P (lameG p mk L).toArray C (fun x => x = e) (fullL ks l) a
  | ks, [], a, _, h => by
    unfold quietL at h
    unfold fullL
    exact h
  | [], o :: l, a, hg, h => by
    unfold fullL
    refine mute_quiet (quiet_full [] l a (fun o' ho => ?_) ?_)
    · cases l <;> (unfold quietL at ho; cases ho)
    · unfold quietL at h
      cases l <;> (unfold quietL; exact h)
  | 0 :: ks, o :: l, a, hg, h => by
    unfold quietL at hg h
    unfold fullL
    have ih := fun a => quiet_full (L := L) (p := p) (mk := mk) (C := C) (e := e) ks l a (fun o' ho => hg o' (List.mem_cons_of_mem _ ho))
    have h' : if Region.wanted o (yielded L.toArray a.tmps) then o.quiet P a C (wpQuiet P L.toArray C (fun x => x = e) (quietL ks l)) else wpQuiet P L.toArray C (fun x => x = e) (quietL ks l) (a.put o.dst undef) := h
    show if Region.wanted o (yielded (lameG p mk L).toArray a.tmps) then o.quiet P a C (wpQuiet P (lameG p mk L).toArray C (fun x => x = e) (fullL ks l)) else wpQuiet P (lameG p mk L).toArray C (fun x => x = e) (fullL ks l) (a.put o.dst undef)
    rw [lameG_wanted o (hg o List.mem_cons_self)]
    split
    · rename_i hw; rw [if_pos hw] at h'; exact Oper.quiet_mono (fun a h => ih a h) h'
    · rename_i hw; rw [if_neg hw] at h'; exact ih _ h'
  | 1 :: ks, o :: l, a, hg, h => by
    unfold quietL at hg h
    unfold fullL
    exact mute_quiet (quiet_full ks l a hg h)
  | (k + 2) :: ks, o :: l, a, hg, h => by
    unfold quietL at hg h
    unfold fullL
    exact quiet_full ks l a hg h

/-- The numbers of a region's operations but those of 'sk'. -/
def orderG (sk : List Nat) (len : Nat) : List Nat := (List.range len).filter fun i => !sk.contains i
theorem wp_coreG {Q : Exit → Act → World → Prop} {a : Act} {w : World} {L : List Oper} (p : Nat) (mk sk ks : List Nat) (listed : Array Bool) (hs : Region.noSelect (lameG p mk L).toArray = true) (hB : lexL .any (lameG p mk L).toArray (orderG sk L.length) listed = true) (hF : genB p mk sk L = true)
    (hK : (orderG sk L.length).filterMap ((lameG p mk L).toArray[·]?) = fullL ks L) (hgd : ∀ o ∈ quietL ks L, ∀ g b, o.guard = some (g, b) → g < p ∧ g ∉ mk)
    (hsz : listed.size = L.length) (hc : Closed L listed) (hsk : ∀ i, i ∈ sk → listed.getD i false = true) (hun : ∀ i, i < L.length → i ∉ sk → listed.getD i true = false)
    (Rl : (Nat → Option Value) → World → Prop) (hst : ∀ G, Stays (Rl G)) (h0 : Rl (fun _ => none) { w with drawn := w.drawn + 1 })
    (h : ∃ e, (∀ R, Stays R → Nonempty (LaterR w R) → wpQuiet P L.toArray (Cls w R) (fun x => x = e) (quietL ks L) a) ∧
      (∀ i o, i ∈ mk → L[i]? = some o → ∀ (G : Nat → Option Value) (w' : World), G i = none → (∀ k, k ∉ mk → G k = none) → (∀ k, k ∈ mk → bindsOn o k = true → G k ≠ none) → Below w.heap.size w w' → Rl G w' → Region.wanted o (yielded L.toArray (putV (dstAt L) G p e).tmps) = true ∧ gives P o (putV (dstAt L) G p e) w' fun v w'' => Below w.heap.size w w'' ∧ Rl (updV G i v) w'') ∧
      ∀ G w', Below w.heap.size w w' → Rl G w' → (∀ i, i ∈ mk → ∃ v, G i = some v) → (∀ i, i ∉ mk → G i = none) → wpList P L.toArray Q (L.drop p) (putV (dstAt L) G p e) w') :
    wpAny P .any L.toArray Q (orderG sk L.length).length listed a { w with drawn := w.drawn + 1 } := by
  obtain ⟨e, hq, hO, hfin⟩ := h
  have F := gform_of hF
  have hb : Below w.heap.size w { w with drawn := w.drawn + 1 } := below_drew (Below.refl _ _)
  have main := any_of_gen F (W := w) (e := e) (Q := Q) (Rl := Rl) hst hO hfin (orderG sk L.length).length listed a (fun _ => none) { w with drawn := w.drawn + 1 } hsz hc hsk (fun R hR hN => ?_) hb h0 (fun i hi => ?_) (fun _ _ => rfl) (fun i h1 h2 => hun i h2 (fun hm => by have := (F.slt i hm).1; omega))
  · rw [putV_none] at main
    exact main
  · refine wpAnyQ_list hs _ _ _ hB ?_
    rw [hK]
    exact quiet_full ks L a hgd (hq R hR hN)
  · have := F.len
    have := F.mlt i hi
    rw [hun i (by omega) (fun hm => (F.slt i hm).2 hi)]
    simp

/-- Operations that yield one value in whatever world, one behind the other. -/
def takeB (L : List Oper) : List Nat → Array Bool → Bool
  | [], _ => true
  | i :: r, listed => Region.free .any L.toArray listed i && (Region.ready .any L.toArray listed).contains i && takeB L r (listed.setIfInBounds i true)
def takeA (L : List Oper) : List (Nat × Value) → Act → Act
  | [], a => a
  | (i, v) :: r, a => takeA L r (a.put (dstAt L i) v)
def takeY (P : Program) (L : List Oper) : List (Nat × Value) → Act → Prop
  | [], _ => True
  | (i, v) :: r, a => (∃ o, L[i]? = some o ∧ Yields P L.toArray o v a) ∧ takeY P L r (a.put (dstAt L i) v)
def takeL : List Nat → Array Bool → Array Bool
  | [], l => l
  | i :: r, l => takeL r (l.setIfInBounds i true)
theorem take_all {Q : Exit → Act → World → Prop} {L : List Oper} (hs : Region.noSelect L.toArray = true) (hQ : ∀ c a d v w, Q (.panic c) (a.put d v) w → Q (.panic c) a w) :
    ∀ (ss : List (Nat × Value)) (listed : Array Bool) (a : Act) (w : World) (fuel : Nat), takeB L (ss.map (·.1)) listed = true → takeY P L ss a → wpAny P .any L.toArray Q fuel (takeL (ss.map (·.1)) listed) (takeA L ss a) w → wpAny P .any L.toArray Q (fuel + ss.length) listed a w
  | [], _, _, _, _, _, _, h => h
  | (i, v) :: r, listed, a, w, fuel, hB, ⟨⟨o, ho, hy⟩, hY⟩, h => by
    simp only [List.map_cons, takeB, Bool.and_eq_true] at hB
    have ed : dstAt L i = o.dst := by unfold dstAt; rw [ho]; rfl
    refine wpAny_take (i := i) (oi := o) (v := v) (by simpa using ho) hs hB.1.1 hB.1.2 (fun c a w => hQ c a o.dst v w) hy ?_
    rw [← ed]
    exact take_all hs hQ r _ _ w fuel hB.2 hY h
theorem takeL_size : ∀ (l : List Nat) (x : Array Bool), (takeL l x).size = x.size
  | [], _ => rfl
  | i :: r, x => by unfold takeL; rw [takeL_size r]; simp
theorem takeL_out {j : Nat} (b : Bool) : ∀ (l : List Nat) (x : Array Bool), j ∉ l → (takeL l x).getD j b = x.getD j b
  | [], _, _ => rfl
  | i :: r, x, h => by
    unfold takeL
    rw [takeL_out b r _ (fun hm => h (List.mem_cons_of_mem _ hm)), getD_set_ne b (fun e => h (by rw [e]; exact List.mem_cons_self))]
theorem takeL_in {j : Nat} : ∀ (l : List Nat) (x : Array Bool), j < x.size → (j ∈ l ∨ x.getD j false = true) → (takeL l x).getD j false = true
  | [], _, _, h => by
    rcases h with h | h
    · cases h
    · exact h
  | i :: r, x, hx, h => by
    unfold takeL
    refine takeL_in r _ (by simpa using hx) ?_
    rcases h with h | h
    · rcases List.mem_cons.1 h with rfl | h
      · exact Or.inr (getD_set_eq hx _)
      · exact Or.inl h
    · exact Or.inr (getD_up h)
theorem takeL_closed {L : List Oper} : ∀ (l : List Nat) (x : Array Bool), Closed L x → takeB L l x = true → Closed L (takeL l x)
  | [], _, h, _ => h
  | i :: r, x, h, hB => by
    simp only [takeB, Bool.and_eq_true] at hB
    unfold takeL
    exact takeL_closed r _ (h.set (by simpa using hB.1.2)) hB.2

/-- All that the kernel reckons. -/
def allB (p : Nat) (mk sk ks : List Nat) (L : List Oper) : Bool :=
  Region.noSelect L.toArray && Region.noSelect (lameG p mk L).toArray && lexL .any (lameG p mk L).toArray (orderG sk L.length) (takeL sk (Array.replicate L.length false)) && genB p mk sk L && takeB L sk (Array.replicate L.length false)
  && decide (ks = (List.range p).map fun i => if mk.contains i then 1 else if sk.contains i then 2 else 0) && decide ((orderG sk L.length).length + sk.length = L.length)
theorem fullL_order {p : Nat} {mk sk : List Nat} (hd : ∀ i, i ∈ sk → i < p ∧ i ∉ mk) : ∀ (l : List Oper) (L : List Oper) (n : Nat), (∀ j, l[j]? = L[n + j]?) →
    ((List.range' n l.length).filter fun i => !sk.contains i).filterMap ((lameG p mk L).toArray[·]?) = fullL ((List.range' n (p - n)).map fun i => if mk.contains i then 1 else if sk.contains i then 2 else 0) l
  | [], L, n, _ => by
    unfold fullL
    rfl
  | o :: l, L, n, hl => by
    have h0 : L[n]? = some o := by simpa using (hl 0).symm
    have ih := fullL_order hd l L (n + 1) (fun j => by have := hl (j + 1); simpa [Nat.add_assoc, Nat.add_comm 1 j] using this)
    rw [List.length_cons, List.range'_succ]
    rcases Nat.lt_or_ge n p with hn | hn
    · have e1 : p - n = (p - (n + 1)) + 1 := by omega
      rw [e1, List.range'_succ, List.map_cons]
      by_cases hm : n ∈ mk
      · have hns : n ∉ sk := fun h => (hd n h).2 hm
        rw [List.filter_cons_of_pos (by simpa using hns), List.filterMap_cons_some (b := mute o) (by simp only [List.getElem?_toArray]; rw [lameG_m (fun h => h.2 hm), h0]; rfl), ih, if_pos (by simpa using hm)]
        rfl
      · by_cases hsn : n ∈ sk
        · rw [List.filter_cons_of_neg (by simpa using hsn), ih, if_neg (by simpa using hm), if_pos (by simpa using hsn)]
          rfl
        · rw [List.filter_cons_of_pos (by simpa using hsn), List.filterMap_cons_some (b := o) (by simp only [List.getElem?_toArray]; rw [lameG_q hn hm]; exact h0), ih, if_neg (by simpa using hm), if_neg (by simpa using hsn)]
          rfl
    · have e1 : p - n = 0 := by omega
      have e2 : p - (n + 1) = 0 := by omega
      have hns : n ∉ sk := fun h => by have := (hd n h).1; omega
      rw [e2] at ih
      rw [e1, List.filter_cons_of_pos (by simpa using hns), List.filterMap_cons_some (b := mute o) (by simp only [List.getElem?_toArray]; rw [lameG_m (by omega), h0]; rfl), ih]
      rfl
theorem quietL_mem {p : Nat} {mk sk : List Nat} : ∀ (l : List Oper) (L : List Oper) (n : Nat), (∀ j, l[j]? = L[n + j]?) → ∀ o ∈ quietL ((List.range' n (p - n)).map fun i => if mk.contains i then 1 else if sk.contains i then 2 else 0) l, ∃ i, i < p ∧ i ∉ mk ∧ L[i]? = some o
  | [], L, n, _, o, ho => by
    unfold quietL at ho
    cases ho
  | o' :: l, L, n, hl, o, ho => by
    have h0 : L[n]? = some o' := by simpa using (hl 0).symm
    have ih := quietL_mem (p := p) (mk := mk) (sk := sk) l L (n + 1) (fun j => by have := hl (j + 1); simpa [Nat.add_assoc, Nat.add_comm 1 j] using this) o
    rcases Nat.lt_or_ge n p with hn | hn
    · have e1 : p - n = (p - (n + 1)) + 1 := by omega
      rw [e1, List.range'_succ, List.map_cons] at ho
      by_cases hm : n ∈ mk
      · rw [if_pos (by simpa using hm)] at ho
        exact ih ho
      · by_cases hsn : n ∈ sk
        · rw [if_neg (by simpa using hm), if_pos (by simpa using hsn)] at ho
          exact ih ho
        · rw [if_neg (by simpa using hm), if_neg (by simpa using hsn)] at ho
          rcases List.mem_cons.1 ho with rfl | ho
          · exact ⟨n, hn, hm, h0⟩
          · exact ih ho
    · have e1 : p - n = 0 := by omega
      rw [e1] at ho
      cases ho

theorem wp_region_gen {id : Nat} {Q : Exit → Act → World → Prop} {a : Act} {w : World} {L : List Oper} (p : Nat) (mk : List Nat) (ss : List (Nat × Value)) (ks : List Nat) (hm : P.follows .mixedOrders = true) (hA : allB p mk (ss.map (·.1)) ks L = true)
    (hQ : ∀ c a d v w, Q (.panic c) (a.put d v) w → Q (.panic c) a w) (hY : takeY P L ss a)
    (Rl : (Nat → Option Value) → World → Prop) (hst : ∀ G, Stays (Rl G)) (h0 : Rl (fun _ => none) { w with drawn := w.drawn + 1 })
    (h : ∃ e, (∀ R, Stays R → Nonempty (LaterR w R) → wpQuiet P L.toArray (Cls w R) (fun x => x = e) (quietL ks L) (takeA L ss a)) ∧
      (∀ i o, i ∈ mk → L[i]? = some o → ∀ (G : Nat → Option Value) (w' : World), G i = none → (∀ k, k ∉ mk → G k = none) → (∀ k, k ∈ mk → bindsOn o k = true → G k ≠ none) → Below w.heap.size w w' → Rl G w' → Region.wanted o (yielded L.toArray (putV (dstAt L) G p e).tmps) = true ∧ gives P o (putV (dstAt L) G p e) w' fun v w'' => Below w.heap.size w w'' ∧ Rl (updV G i v) w'') ∧
      ∀ G w', Below w.heap.size w w' → Rl G w' → (∀ i, i ∈ mk → ∃ v, G i = some v) → (∀ i, i ∉ mk → G i = none) → wpList P L.toArray Q (L.drop p) (putV (dstAt L) G p e) w') :
    (Code.region id L.toArray true).wp P Q a w := by
  simp only [allB, Bool.and_eq_true, decide_eq_true_eq] at hA
  obtain ⟨⟨⟨⟨⟨⟨b1, b2⟩, b3⟩, b4⟩, b5⟩, b6⟩, b7⟩ := hA
  have F := gform_of b4
  refine wp_region_any hm ?_
  have hN : L.toArray.size = (orderG (ss.map (·.1)) L.length).length + ss.length := by rw [← List.length_map (f := (·.1)) (as := ss), b7]; simp
  have hrep : ∀ j, (Array.replicate L.length false).getD j false = false := fun j => by
    rcases Nat.lt_or_ge j L.length with g | g
    · rw [Array.getD, dif_pos (by simpa using g)]; simp
    · rw [Array.getD, dif_neg (by simpa using g)]
  have key : ∀ N, L.toArray.size = N → wpAny P .any L.toArray Q N (Array.replicate L.length false) a { w with drawn := w.drawn + 1 } := by
    intro N hN'
    rw [hN] at hN'
    subst hN'
    refine take_all b1 hQ ss _ a _ _ b5 hY ?_
    refine wp_coreG p mk (ss.map (·.1)) ks _ b2 b3 b4 ?_ ?_ (by rw [takeL_size]; simp) (takeL_closed _ _ (fun j o _ hl => by rw [hrep j] at hl; cases hl) b5) (fun i hi => ?_) (fun i hi his => ?_) Rl hst h0 h
    · have := fullL_order (p := p) (mk := mk) (sk := ss.map (·.1)) F.slt L L 0 (fun j => by simp)
      rw [List.range'_eq_map_range] at this
      simp only [Nat.sub_zero] at this
      rw [b6]
      unfold orderG
      simpa [List.range_eq_range'] using this
    · intro o ho g b hg
      rw [b6] at ho
      have hq := quietL_mem (p := p) (mk := mk) (sk := ss.map (·.1)) L L 0 (fun j => by simp) o (by simpa [List.range_eq_range'] using ho)
      obtain ⟨i, h1, h2, h3⟩ := hq
      exact F.guards i o h1 h2 h3 g b hg
    · exact takeL_in _ _ (by simp; have := (F.slt i hi).1; have := F.len; omega) (Or.inl hi)
    · rw [takeL_out true _ _ his]
      exact rep_at hi
  have := key _ rfl
  simpa using this

end
end Go.Proofs.Ytopepgifhnfbiaa
