/- Two laws on regions that draw their order, for every program. (1) A region whose last operation (a store) waits for all the others, which are quiet in a class of worlds: one walk in the text's order, then that last operation, serves every order. (2) The class 'Later w': whatever world keeps what was in w (calls that lay new blocks keep it). Conditions: a Bool over the region, reckoned by the kernel. -/
import Derived.BigQuiet
import Derived.Below
import Derived.MapKept
namespace Go.Proofs.Ytibgilaeepmheaa
open Go Go.RowKit

section
variable {P : Program} {C : World → Prop}

/-- The last operation with nothing to do, in its place among the others. -/
def idle (s : Oper) : Oper := { s with op := .move (.const undef) }
/-- Each operation waits for earlier ones alone; the last one for all of them, and it fills no slot. -/
def tailB (l : List Oper) (s : Oper) : Bool :=
  ((List.range (l.length + 1)).all fun i => (((l ++ [s])[i]?).map fun o => o.after.all fun e => !Region.binds .any e || decide (e.on < i)).getD true)
  && ((List.range l.length).all fun i => s.after.any fun e => Region.binds .any e && e.on == i) && s.dst.isNone

theorem idle_at (l : List Oper) (s : Oper) (j : Nat) (h : j ≠ l.length) : (l ++ [idle s]).toArray[j]? = (l ++ [s]).toArray[j]? := by
  simp only [List.getElem?_toArray]
  rcases Nat.lt_or_ge j l.length with g | g
  · rw [List.getElem?_append_left g, List.getElem?_append_left g]
  · rw [List.getElem?_eq_none (by simp; omega), List.getElem?_eq_none (by simp; omega)]
theorem last_at (l : List Oper) (s : Oper) : (l ++ [s]).toArray[l.length]? = some s := by simp
theorem idle_yielded (l : List Oper) (s : Oper) (t : Array Value) : yielded (l ++ [idle s]).toArray t = yielded (l ++ [s]).toArray t := by
  funext j
  unfold yielded
  by_cases h : j = l.length
  · rw [h, last_at, last_at]; rfl
  · rw [idle_at l s j h]
theorem idle_ready (md : Region.Mode) (l : List Oper) (s : Oper) (listed : Array Bool) : Region.ready md (l ++ [idle s]).toArray listed = Region.ready md (l ++ [s]).toArray listed := by
  unfold Region.ready
  have hs : (l ++ [idle s]).toArray.size = (l ++ [s]).toArray.size := by simp
  rw [hs]
  congr 1
  funext i
  by_cases h : i = l.length
  · rw [h, last_at, last_at]; rfl
  · rw [idle_at l s i h]

theorem wpQuiet_idle {Q : Act → Prop} (l : List Oper) (s : Oper) (hd : s.dst = none) : ∀ (k : List Oper) (a : Act), wpQuiet P (l ++ [s]).toArray C Q k a → wpQuiet P (l ++ [idle s]).toArray C Q (k ++ [idle s]) a
  | [], a, h => by
    have hq : Q (a.put (idle s).dst (a.eval (.const undef))) := by
      show Q (a.put s.dst _)
      rw [hd]; exact h
    have hq' : Q (a.put (idle s).dst undef) := by
      show Q (a.put s.dst _)
      rw [hd]; exact h
    show if Region.wanted (idle s) (yielded (l ++ [idle s]).toArray a.tmps) then (idle s).quiet P a C Q else Q (a.put (idle s).dst undef)
    split
    · exact BigFrame.quiet_move (.const undef) rfl hq
    · exact hq'
  | o :: k, a, h => by
    have ih := wpQuiet_idle (Q := Q) l s hd k
    have h' : if Region.wanted o (yielded (l ++ [s]).toArray a.tmps) then o.quiet P a C (wpQuiet P (l ++ [s]).toArray C Q k) else wpQuiet P (l ++ [s]).toArray C Q k (a.put o.dst undef) := h
    show if Region.wanted o (yielded (l ++ [idle s]).toArray a.tmps) then o.quiet P a C (wpQuiet P (l ++ [idle s]).toArray C Q (k ++ [idle s])) else wpQuiet P (l ++ [idle s]).toArray C Q (k ++ [idle s]) (a.put o.dst undef)
    rw [idle_yielded]
    split
    · rename_i hw; rw [if_pos hw] at h'; exact Oper.quiet_mono (fun a h => ih a h) h'
    · rename_i hw; rw [if_neg hw] at h'; exact ih _ h'

theorem getD_of {listed : Array Bool} {i : Nat} (h : listed.getD i false = true) : listed.getD i true = true := by
  rcases Nat.lt_or_ge i listed.size with g | g
  · simp [g] at h ⊢; exact h
  · simp [Array.getElem?_eq_none g] at h
theorem getD_of' {listed : Array Bool} {i : Nat} (hi : i < listed.size) (h : listed.getD i true = true) : listed.getD i false = true := by
  simp [hi] at h ⊢; exact h

/-- While the last one waits, some operation is ready. -/
theorem some_ready {l : List Oper} {s : Oper} {listed : Array Bool} (hsz : listed.size = l.length + 1)
    (ho : ∀ i o, (l ++ [s])[i]? = some o → ∀ e ∈ o.after, Region.binds .any e = true → e.on < i) :
    ∀ (n : Nat), n ≤ l.length → listed.getD n true = false → Region.ready .any (l ++ [s]).toArray listed ≠ [] := by
  intro n
  induction n using Nat.strongRecOn with
  | _ n ih =>
    intro hn hu
    by_cases hall : ∀ m, m < n → listed.getD m true = true
    · obtain ⟨o, hoe⟩ : ∃ o, (l ++ [s])[n]? = some o := ⟨_, List.getElem?_eq_getElem (by simp; omega)⟩
      have hr : n ∈ Region.ready .any (l ++ [s]).toArray listed := by
        refine mem_ready.2 ⟨hu, o, by simpa using hoe, fun e he hb => ?_⟩
        have hlt := ho n o hoe e he hb
        exact getD_of' (by omega) (hall _ hlt)
      intro h0
      rw [h0] at hr
      cases hr
    · have : ∃ m, m < n ∧ listed.getD m true = false := by
        apply Classical.byContradiction
        intro hno
        exact hall fun m hm => by
          cases hb : listed.getD m true
          · exact absurd ⟨m, hm, hb⟩ hno
          · rfl
      obtain ⟨m, hm, hu'⟩ := this
      exact ih m hm (by omega) hu'

/-- Behind the last one none is ready. -/
theorem none_ready {l : List Oper} {s : Oper} {listed : Array Bool} (hsz : listed.size = l.length + 1)
    (hw : ∀ i, i < l.length → ∃ e ∈ s.after, Region.binds .any e = true ∧ e.on = i) (hr : l.length ∈ Region.ready .any (l ++ [s]).toArray listed) :
    Region.ready .any (l ++ [s]).toArray (listed.setIfInBounds l.length true) = [] := by
  obtain ⟨hu, o, ho, hall⟩ := mem_ready.1 hr
  rw [last_at] at ho
  obtain rfl : s = o := Option.some.inj ho
  apply List.eq_nil_iff_forall_not_mem.2
  intro j hj
  obtain ⟨hju, oj, hoj, _⟩ := mem_ready.1 hj
  have hlt : j < l.length + 1 := by have := (Array.getElem?_eq_some_iff.1 hoj).1; simpa using this
  by_cases hjn : j = l.length
  · rw [hjn] at hju
    have hsz' : l.length < listed.size := by omega
    simp [hsz'] at hju
  · rw [getD_set_ne true (Ne.symm hjn)] at hju
    obtain ⟨e, he, hb, hon⟩ := hw j (by omega)
    have := getD_of (hall e he hb)
    rw [hon, hju] at this
    cases this

theorem wpAny_done {ops : Array Oper} {md : Region.Mode} {Q : Exit → Act → World → Prop} {listed : Array Bool} (h0 : Region.ready md ops listed = []) : ∀ (fuel : Nat) (a : Act) (w : World), Q .normal a w → wpAny P md ops Q fuel listed a w
  | 0, _, _, h => ⟨h0, h⟩
  | _ + 1, _, _, h => ⟨fun _ => h, fun i hi => by rw [h0] at hi; cases hi⟩
theorem wpAnyQ_done {ops : Array Oper} {md : Region.Mode} {Q : Act → Prop} {listed : Array Bool} (h0 : Region.ready md ops listed = []) : ∀ (fuel : Nat) (a : Act), wpAnyQ P md ops C Q fuel listed a → Q a
  | 0, _, h => h.2
  | _ + 1, _, h => h.1 h0

theorem any_of_idle {Q : Exit → Act → World → Prop} {l : List Oper} {s : Oper} (hd : s.dst = none)
    (ho : ∀ i o, (l ++ [s])[i]? = some o → ∀ e ∈ o.after, Region.binds .any e = true → e.on < i)
    (hw : ∀ i, i < l.length → ∃ e ∈ s.after, Region.binds .any e = true ∧ e.on = i) :
    ∀ (fuel : Nat) (listed : Array Bool) (a : Act) (w : World), listed.size = l.length + 1 → listed.getD l.length true = false → C w →
      wpAnyQ P .any (l ++ [idle s]).toArray C (fun a' => ∀ w', C w' → wpList P (l ++ [s]).toArray Q [s] a' w') fuel listed a →
      wpAny P .any (l ++ [s]).toArray Q fuel listed a w
  | 0, listed, a, w, hsz, hu, hC, h => by
    have h0 := h.1
    rw [idle_ready] at h0
    exact absurd h0 (some_ready hsz ho _ (Nat.le_refl _) hu)
  | fuel + 1, listed, a, w, hsz, hu, hC, h => by
    refine ⟨fun h0 => absurd h0 (some_ready hsz ho _ (Nat.le_refl _) hu), fun i hi => ?_⟩
    have hq := h.2 i (by rw [idle_ready]; exact hi)
    by_cases hin : i = l.length
    · subst hin
      have hn := none_ready hsz hw hi
      unfold qOp at hq
      rw [last_at] at hq
      have hK : wpAnyQ P .any (l ++ [idle s]).toArray C (fun a' => ∀ w', C w' → wpList P (l ++ [s]).toArray Q [s] a' w') fuel (listed.setIfInBounds l.length true) a := by
        have e : ∀ v, a.put (idle s).dst v = a := fun v => by show a.put s.dst v = a; rw [hd]; rfl
        simp only at hq
        split at hq
        · obtain ⟨v, _, hk⟩ := hq; rw [e] at hk; exact hk
        · rw [e] at hq; exact hq
      have hT := wpAnyQ_done (by rw [idle_ready]; exact hn) fuel a hK w hC
      unfold wpOp
      rw [last_at]
      have hT' : if Region.wanted s (yielded (l ++ [s]).toArray a.tmps) then s.wp P a w (wpList P (l ++ [s]).toArray Q []) Q ∨ (s.asks P a w ∧ LetsOut Q) else wpList P (l ++ [s]).toArray Q [] (a.put s.dst undef) w := hT
      simp only
      split
      · rename_i hwn; rw [if_pos hwn] at hT'
        exact hT'.imp (Oper.wp_mono fun a' w' h' => wpAny_done hn fuel a' w' h') id
      · rename_i hwn; rw [if_neg hwn] at hT'
        exact wpAny_done hn fuel _ _ hT'
    · have hq' : qOp P (l ++ [s]).toArray C i (wpAnyQ P .any (l ++ [idle s]).toArray C (fun a' => ∀ w', C w' → wpList P (l ++ [s]).toArray Q [s] a' w') fuel (listed.setIfInBounds i true)) a := by
        unfold qOp at hq ⊢
        rw [idle_at l s i hin, idle_yielded] at hq
        exact hq
      exact wpOp_of_qOp hC (fun a' w' hC' hk => any_of_idle hd ho hw fuel _ a' w' (by simpa using hsz) (by rw [getD_set_ne true hin]; exact hu) hC' hk) hq'

theorem wp_region_tail {id : Nat} {Q : Exit → Act → World → Prop} {a : Act} {w : World} (l : List Oper) (s : Oper) (hm : P.follows .mixedOrders = true) (hB : Region.lexB .any (l ++ [idle s]).toArray = true) (hT : tailB l s = true)
    (hC : C { w with drawn := w.drawn + 1 })
    (h : wpQuiet P (l ++ [s]).toArray C (fun a' => ∀ w', C w' → wpList P (l ++ [s]).toArray Q [s] a' w') l a) : (Code.region id (l ++ [s]).toArray true).wp P Q a w := by
  simp only [tailB, Bool.and_eq_true] at hT
  obtain ⟨⟨h1, h2⟩, h3⟩ := hT
  have hd : s.dst = none := by simpa using h3
  have ho : ∀ i o, (l ++ [s])[i]? = some o → ∀ e ∈ o.after, Region.binds .any e = true → e.on < i := by
    intro i o hio e he hb
    have hi : i < l.length + 1 := by have := (List.getElem?_eq_some_iff.1 hio).1; simpa using this
    have h4 := List.all_eq_true.1 h1 i (List.mem_range.2 hi)
    rw [hio] at h4
    simp only [Option.map_some, Option.getD_some] at h4
    have h5 := Array.all_eq_true_iff_forall_mem.1 h4 e he
    simpa [hb] using h5
  have hw : ∀ i, i < l.length → ∃ e ∈ s.after, Region.binds .any e = true ∧ e.on = i := by
    intro i hi
    have h4 := List.all_eq_true.1 h2 i (List.mem_range.2 hi)
    obtain ⟨e, he, h5⟩ := Array.any_eq_true'.1 h4
    simp only [Bool.and_eq_true, beq_iff_eq] at h5
    exact ⟨e, he, h5.1, h5.2⟩
  simp only [Region.lexB, Bool.and_eq_true] at hB
  have hq := wpQuiet_idle (Q := fun a' => ∀ w', C w' → wpList P (l ++ [s]).toArray Q [s] a' w') l s hd l a h
  have hany := wpAnyQ_lex (C := C) (md := .any) hB.1 (l ++ [idle s]) 0 (Array.replicate (l ++ [idle s]).toArray.size false) a (by simp) (by simpa using hB.2) hq
  refine wp_region_any hm ?_
  have hsz : (l ++ [s]).toArray.size = (l ++ [idle s]).length := by simp
  have hsz' : (l ++ [idle s]).toArray.size = (l ++ [s]).toArray.size := by simp
  rw [hsz'] at hany
  rw [← hsz] at hany
  refine any_of_idle hd ho hw _ _ a _ (by simp) ?_ hC hany
  simp

theorem split_last {L : List Oper} {n : Nat} (hn : L.length = n + 1) : ∃ s, L.drop n = [s] ∧ L = L.take n ++ [s] := by
  have hd : (L.drop n).length = 1 := by rw [List.length_drop, hn]; omega
  obtain ⟨s, hs⟩ := List.length_eq_one_iff.1 hd
  exact ⟨s, hs, by rw [← hs, List.take_append_drop]⟩

/-- (1), the region written out, n operations ahead of the last. -/
theorem wp_region_tail_lit {id : Nat} {Q : Exit → Act → World → Prop} {a : Act} {w : World} {L : List Oper} (n : Nat) (hn : L.length = n + 1) (hm : P.follows .mixedOrders = true) (hB : Region.lexB .any (L.take n ++ (L.drop n).map idle).toArray = true) (hT : (L.drop n).all (tailB (L.take n)) = true)
    (hC : C { w with drawn := w.drawn + 1 })
    (h : wpQuiet P L.toArray C (fun a' => ∀ w', C w' → wpList P L.toArray Q (L.drop n) a' w') (L.take n) a) : (Code.region id L.toArray true).wp P Q a w := by
  obtain ⟨s, hs, hL⟩ := split_last hn
  generalize hl : L.take n = l at *
  generalize L.drop n = r at *
  subst hs
  subst hL
  clear hl hn
  exact wp_region_tail l s hm hB (by simpa using hT) hC h
theorem wp_region_draws_tail {id : Nat} {Q : Exit → Act → World → Prop} {a : Act} {w : World} {L : List Oper} (n : Nat) (hn : L.length = n + 1) (hm : P.follows .mixedOrders = true) (hB : Region.lexB .any (L.take n ++ (L.drop n).map idle).toArray = true) (hT : (L.drop n).all (tailB (L.take n)) = true)
    (h : wpQuiet P L.toArray (fun w' => ∃ n, w' = w.drewN n) (fun a' => ∀ w', (∃ n, w' = w.drewN n) → wpList P L.toArray Q (L.drop n) a' w') (L.take n) a) : (Code.region id L.toArray true).wp P Q a w :=
  wp_region_tail_lit (C := fun w' => ∃ n, w' = w.drewN n) n hn hm hB hT ⟨1, rfl⟩ h
theorem wp_region_class {id : Nat} {Q : Exit → Act → World → Prop} {a : Act} {w : World} {L : List Oper} (hm : P.follows .mixedOrders = true) (hB : Region.lexB .any L.toArray = true) (hC : C { w with drawn := w.drawn + 1 })
    (h : wpQuiet P L.toArray C (fun a' => ∀ w', C w' → Q .normal a' w') L a) : (Code.region id L.toArray true).wp P Q a w :=
  wp_region_quiet hm hB hC (by simpa using h)

end

/-- Whatever world keeps what was in w. -/
structure Later (w : World) where
  to : World
  below : Below w.heap.size w to
instance (w : World) : Nonempty (Later w) := ⟨⟨w, Below.refl _ _⟩⟩
theorem Later.cell {w : World} (z : Later w) {p : Addr} (hp : p.block < w.heap.size) : z.to.cell? p = w.cell? p := z.below.cell hp
theorem Later.calls {P : Program} {f : FuncId} {args : Array Value} {w : World} {z : Later w} {v : Value} (h : Calls P f args z.to fun e w' => e = .returned v ∧ Below z.to.heap.size z.to w') :
    Calls P f args z.to fun e w'' => e = .returned v ∧ ∃ z' : Later w, w'' = z'.to :=
  h.mono fun _ w' ⟨he, hb⟩ => ⟨he, ⟨w', z.below.trans (hb.mono z.below.size)⟩, rfl⟩
theorem below_drewN {B : Nat} {a w : World} (h : Below B a w) (n : Nat) : Below B a (w.drewN n) := h.trans ⟨rfl, rfl, rfl, Nat.le_refl _, fun _ _ => rfl⟩
theorem below_drew {B : Nat} {a w : World} (h : Below B a w) : Below B a { w with drawn := w.drawn + 1 } := h.trans ⟨rfl, rfl, rfl, Nat.le_refl _, fun _ _ => rfl⟩

/-- Block g of w holds just these cells. -/
def Has (w : World) (g : Nat) (cs : Array Value) (t : TypeId) : Prop := w.heap[g]? = some (.cells cs t)
theorem Has.lt {w : World} {g : Nat} {cs : Array Value} {t : TypeId} (h : Has w g cs t) : g < w.heap.size := (Array.getElem?_eq_some_iff.1 h).1
theorem has_new {w : World} {g : Nat} {cs : Array Value} {t : TypeId} (h : w.heap.size = g) : Has (w.alloc (.cells cs t)) g cs t := by
  subst h; exact (MapKept.heap_alloc w _).1
theorem Has.alloc {w : World} {g : Nat} {cs : Array Value} {t : TypeId} (h : Has w g cs t) (o : Obj) : Has (w.alloc o) g cs t := ((MapKept.heap_alloc w o).2 g h.lt).trans h
theorem Has.below {w w' : World} {g B : Nat} {cs : Array Value} {t : TypeId} (h : Has w g cs t) (hb : Below B w w') (hg : g < B) : Has w' g cs t := (hb.block g hg).trans h
theorem Has.drewN {w : World} {g : Nat} {cs : Array Value} {t : TypeId} (h : Has w g cs t) (n : Nat) : Has (w.drewN n) g cs t := h
theorem Has.cell {w : World} {g : Nat} {cs : Array Value} {t : TypeId} (h : Has w g cs t) (k : Nat) (v : Value) (hv : cs[k]? = some v) : w.cell? ⟨g, k, none⟩ = some v := by
  unfold Has at h
  simp [World.cell?, h, hv]
theorem Later.read {W : World} {g : Nat} {cs : Array Value} {t : TypeId} (h : Has W g cs t) (k : Nat) (v : Value) (hv : cs[k]? = some v) (z : Later W) : z.to.cell? ⟨g, k, none⟩ = some v :=
  (h.below z.below h.lt).cell k v hv

/- Draws stand outermost: the laws that the walk's own set lacks (for 'attribute [local go_sem]'). -/
theorem alloc_drewN (w : World) (n : Nat) (o : Obj) : (w.drewN n).alloc o = (w.alloc o).drewN n := rfl
theorem setCell_drewN (w : World) (n : Nat) (a : Addr) (v : Value) : (w.drewN n).setCell a v = (w.setCell a v).drewN n := rfl
theorem shape_drewN (w : World) (n : Nat) (r : Nat) : (w.drewN n).shape? r = w.shape? r := rfl

#print axioms wp_region_tail
end Go.Proofs.Ytibgilaeepmheaa
