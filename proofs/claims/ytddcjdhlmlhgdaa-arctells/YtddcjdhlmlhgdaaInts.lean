/- Structs of int64 fields, by value, for every program and any number of fields: the argument opened to its numbers, and shut again. Conditions: each field is one cell of that type (a Bool, reckoned by the kernel). -/
import Derived.Lib.SmallJoins
import Derived.ChangeSame
import Derived.Below
namespace Go.Proofs.Ytddcjdhlmlhgdaa
open Go Go.RowKit Go.Joins Go.ChangeShapes Go.WideShapes Go.Deep

section
variable {H : Type} {enc : TypeId × Value → H} {P : Program} {w : World} {base : Nat} {spare : Nat → Bool} {held : Bool}

def fieldsOf (e : TypeId) (fs : Array Field) : Bool := fs.toList.all fun f => f.type == e
theorem fieldsOf_spec {e : TypeId} {fs : Array Field} (h : fieldsOf e fs = true) (j : Nat) (f : Field) (hj : fs[j]? = some f) : f.type = e := by
  have := List.all_eq_true.1 h f (by rw [Array.mem_toList_iff]; exact Array.mem_of_getElem? hj)
  simpa using this

theorem open_ints {r : Reach} {b0 : Nat} {t e : TypeId} {fs : Array Field} {v : Value} {d : DataW H} {p : List MemPlace} (hs : P.underlying t = some (.struct fs)) (he : P.underlying e = some (.int .i64))
    (hone : oneCellFields P fs = true) (hty : fieldsOf e fs = true) (hC : P.cellsOf t = fs.size) (hv : Value.okWide P w r b0 t v) (h : DataW.Trod enc P w base spare held t v d p) :
    ∃ ns : List Int, ns.length = fs.size ∧ v = .agg (ns.map (Value.int .i64)).toArray ∧ d = .agg (ns.map fun n => .lit (.int .i64 n)) ∧ p = [] ∧ ∀ n ∈ ns, (Lit.int .i64 n).wf = true := by
  obtain ⟨⟨L⟩, rfl, hsz⟩ := okWide_struct hs hv
  obtain ⟨fuel, hf⟩ := h
  obtain ⟨xs, n, _, hx, _, hlen, hg⟩ := DataW.trod_struct hs hf
  have hL : L.length = fs.size := by rw [← hC]; simpa using hsz
  have key : ∀ j, j < fs.size → ∃ a, L[j]? = some (.int .i64 a) ∧ xs[j]? = some (.lit (.int .i64 a), []) ∧ (Lit.int .i64 a).wf = true := by
    intro j hj
    obtain ⟨f, hfj⟩ : ∃ f, fs[j]? = some f := ⟨_, Array.getElem?_eq_getElem hj⟩
    obtain ⟨ho, hk⟩ := hone_of hone j f hfj
    have h1 := hg j f hfj
    rw [ho, hk, fieldsOf_spec hty j f hfj] at h1
    have hjL : j < L.length := by omega
    have hc : (((Value.agg L.toArray).cells.toList).drop j).take 1 = [L[j]] := by
      show (L.drop j).take 1 = [L[j]]
      rw [List.drop_eq_getElem_cons hjL]; rfl
    rw [hc] at h1
    have hxj : xs[j]? = some (xs[j]'(by omega)) := List.getElem?_eq_getElem (by omega)
    rw [hxj] at h1
    obtain ⟨a, ha, hxa, hw⟩ := DataW.trod_int he h1
    have hLa : L[j] = .int .i64 a := by simpa using ha
    exact ⟨a, by rw [List.getElem?_eq_getElem hjL, hLa], by rw [hxj, hxa], hw⟩
  have e1 : (L.map intOf).map (Value.int .i64) = L := by
    apply List.ext_getElem?
    intro j
    by_cases hj : j < fs.size
    · obtain ⟨a, ha, _, _⟩ := key j hj
      simp [List.getElem?_map, ha, intOf]
    · rw [List.getElem?_eq_none (by simp; omega), List.getElem?_eq_none (by omega)]
  have e2 : xs.map (·.1) = (L.map intOf).map fun n => DataW.lit (.int .i64 n) := by
    apply List.ext_getElem?
    intro j
    by_cases hj : j < fs.size
    · obtain ⟨a, ha, hxa, _⟩ := key j hj
      simp [List.getElem?_map, ha, hxa, intOf]
    · rw [List.getElem?_eq_none (by simp; omega), List.getElem?_eq_none (by simp; omega)]
  have e3 : xs.flatMap (·.2) = [] := by
    rw [List.flatMap_eq_nil_iff]
    intro y hy
    obtain ⟨j, hj⟩ := List.mem_iff_getElem?.1 hy
    have hjl : j < fs.size := by have := (List.getElem?_eq_some_iff.1 hj).1; omega
    obtain ⟨a, _, hxa, _⟩ := key j hjl
    rw [hj] at hxa
    rw [Option.some.inj hxa]
  simp only [Prod.mk.injEq] at hx
  refine ⟨L.map intOf, by simpa using hL, by rw [e1], by rw [hx.1, e2], by rw [hx.2, e3], fun m hm => ?_⟩
  obtain ⟨c, hc, rfl⟩ := List.mem_map.1 hm
  obtain ⟨j, hj⟩ := List.mem_iff_getElem?.1 hc
  have hjl : j < fs.size := by have := (List.getElem?_eq_some_iff.1 hj).1; omega
  obtain ⟨a, ha, _, hw⟩ := key j hjl
  rw [hj] at ha
  rw [Option.some.inj ha]
  exact hw

theorem mapM_all {α β : Type} {g : α → Option β} : ∀ (l : List α) (xs : List β), l.length = xs.length → (∀ (i : Nat) a x, l[i]? = some a → xs[i]? = some x → g a = some x) → l.mapM g = some xs
  | [], [], _, _ => by simp
  | [], _ :: _, h, _ => by simp at h
  | _ :: _, [], h, _ => by simp at h
  | a :: l, x :: xs, h, hh => by
    have h0 : g a = some x := hh 0 a x rfl rfl
    have ih := mapM_all l xs (by simpa using h) (fun i b y h1 h2 => hh (i + 1) b y (by simpa using h1) (by simpa using h2))
    simp [List.mapM_cons, h0, ih]

theorem shut_ints {t e : TypeId} {fs : Array Field} {ns : List Int} (hs : P.underlying t = some (.struct fs)) (he : P.underlying e = some (.int .i64))
    (hone : oneCellFields P fs = true) (hty : fieldsOf e fs = true) (hC : P.cellsOf t = fs.size) (hl : ns.length = fs.size) (hw : ∀ n ∈ ns, (Lit.int .i64 n).wf = true) :
    DataW.Trod enc P w base spare held t (.agg (ns.map (Value.int .i64)).toArray) (.agg (ns.map fun n => .lit (.int .i64 n))) [] := by
  have h := trod_struct_mk (enc := enc) (w := w) (base := base) (spare := spare) (held := held) (n := 1) (cs := ns.map (Value.int .i64)) (xs := ns.map fun n => (DataW.lit (.int .i64 n), [])) hs (by simp [hl, hC]) (by
    refine mapM_all _ _ (by simp [hl]) ?_
    intro i f x hf hx
    have hf' : fs[i]? = some f := by simpa using hf
    obtain ⟨ho, hk⟩ := hone_of hone i f hf'
    have hil : i < ns.length := by have := (Array.getElem?_eq_some_iff.1 hf').1; omega
    rw [List.getElem?_map, List.getElem?_eq_getElem hil] at hx
    obtain rfl := Option.some.inj hx
    rw [ho, hk, fieldsOf_spec hty i f hf']
    have hc : ((ns.map (Value.int .i64)).drop i).take 1 = [.int .i64 ns[i]] := by
      rw [List.drop_eq_getElem_cons (by simpa using hil)]
      simp
    rw [hc]
    have hwn := hw ns[i] (List.getElem_mem hil)
    simp [DataW.trod, he, hwn])
  refine ⟨2, ?_⟩
  have e1 : (ns.map fun n => (DataW.lit (H := H) (.int .i64 n), ([] : List MemPlace))).map (·.1) = ns.map fun n => .lit (.int .i64 n) := by simp
  have e2 : (ns.map fun n => (DataW.lit (H := H) (.int .i64 n), ([] : List MemPlace))).flatMap (·.2) = [] := by
    rw [List.flatMap_eq_nil_iff]; intro y hy; obtain ⟨m, _, rfl⟩ := List.mem_map.1 hy; rfl
  rw [e1, e2] at h
  exact h

theorem list2 {l : List Int} (h : l.length = 2) : ∃ n0 n1, l = [n0, n1] := by
  match l, h with
  | [n0, n1], _ => exact ⟨n0, n1, rfl⟩
theorem open_ints2 {r : Reach} {b0 : Nat} {t e : TypeId} {fs : Array Field} {v : Value} {d : DataW H} {p : List MemPlace} (hs : P.underlying t = some (.struct fs)) (he : P.underlying e = some (.int .i64))
    (hone : oneCellFields P fs = true) (hty : fieldsOf e fs = true) (hC : P.cellsOf t = fs.size) (h2 : fs.size = 2) (hv : Value.okWide P w r b0 t v) (h : DataW.Trod enc P w base spare held t v d p) :
    ∃ n0 n1 : Int, v = .agg #[.int .i64 n0, .int .i64 n1] ∧ d = .agg [.lit (.int .i64 n0), .lit (.int .i64 n1)] ∧ p = [] ∧ (Lit.int .i64 n0).wf = true ∧ (Lit.int .i64 n1).wf = true := by
  obtain ⟨ns, hl, hv', hd, hp, hw⟩ := open_ints hs he hone hty hC hv h
  obtain ⟨n0, n1, rfl⟩ := list2 (hl.trans h2)
  exact ⟨n0, n1, hv', hd, hp, hw n0 (by simp), hw n1 (by simp)⟩
theorem shut_ints2 {t e : TypeId} {fs : Array Field} {n0 n1 : Int} (hs : P.underlying t = some (.struct fs)) (he : P.underlying e = some (.int .i64))
    (hone : oneCellFields P fs = true) (hty : fieldsOf e fs = true) (hC : P.cellsOf t = fs.size) (h2 : fs.size = 2) (w0 : (Lit.int .i64 n0).wf = true) (w1 : (Lit.int .i64 n1).wf = true) :
    DataW.Trod enc P w base spare held t (.agg #[.int .i64 n0, .int .i64 n1]) (.agg [.lit (.int .i64 n0), .lit (.int .i64 n1)]) [] :=
  shut_ints (ns := [n0, n1]) hs he hone hty hC h2.symm (by intro m hm; simp at hm; rcases hm with rfl | rfl <;> assumption)
theorem list4 {l : List Int} (h : l.length = 4) : ∃ n0 n1 n2 n3, l = [n0, n1, n2, n3] := by
  match l, h with
  | [n0, n1, n2, n3], _ => exact ⟨n0, n1, n2, n3, rfl⟩
theorem open_ints4 {r : Reach} {b0 : Nat} {t e : TypeId} {fs : Array Field} {v : Value} {d : DataW H} {p : List MemPlace} (hs : P.underlying t = some (.struct fs)) (he : P.underlying e = some (.int .i64))
    (hone : oneCellFields P fs = true) (hty : fieldsOf e fs = true) (hC : P.cellsOf t = fs.size) (h4 : fs.size = 4) (hv : Value.okWide P w r b0 t v) (h : DataW.Trod enc P w base spare held t v d p) :
    ∃ n0 n1 n2 n3 : Int, v = .agg #[.int .i64 n0, .int .i64 n1, .int .i64 n2, .int .i64 n3] ∧ d = .agg [.lit (.int .i64 n0), .lit (.int .i64 n1), .lit (.int .i64 n2), .lit (.int .i64 n3)] ∧ p = [] ∧ (Lit.int .i64 n0).wf = true ∧ (Lit.int .i64 n1).wf = true ∧ (Lit.int .i64 n2).wf = true ∧ (Lit.int .i64 n3).wf = true := by
  obtain ⟨ns, hl, hv', hd, hp, hw⟩ := open_ints hs he hone hty hC hv h
  obtain ⟨n0, n1, n2, n3, rfl⟩ := list4 (hl.trans h4)
  exact ⟨n0, n1, n2, n3, hv', hd, hp, hw n0 (by simp), hw n1 (by simp), hw n2 (by simp), hw n3 (by simp)⟩
theorem shut_ints4 {t e : TypeId} {fs : Array Field} {n0 n1 n2 n3 : Int} (hs : P.underlying t = some (.struct fs)) (he : P.underlying e = some (.int .i64))
    (hone : oneCellFields P fs = true) (hty : fieldsOf e fs = true) (hC : P.cellsOf t = fs.size) (h4 : fs.size = 4) (w0 : (Lit.int .i64 n0).wf = true) (w1 : (Lit.int .i64 n1).wf = true) (w2 : (Lit.int .i64 n2).wf = true) (w3 : (Lit.int .i64 n3).wf = true) :
    DataW.Trod enc P w base spare held t (.agg #[.int .i64 n0, .int .i64 n1, .int .i64 n2, .int .i64 n3]) (.agg [.lit (.int .i64 n0), .lit (.int .i64 n1), .lit (.int .i64 n2), .lit (.int .i64 n3)]) [] :=
  shut_ints (ns := [n0, n1, n2, n3]) hs he hone hty hC h4.symm (by intro m hm; simp at hm; rcases hm with rfl | rfl | rfl | rfl <;> assumption)
theorem list6 {l : List Int} (h : l.length = 6) : ∃ n0 n1 n2 n3 n4 n5, l = [n0, n1, n2, n3, n4, n5] := by
  match l, h with
  | [n0, n1, n2, n3, n4, n5], _ => exact ⟨n0, n1, n2, n3, n4, n5, rfl⟩
theorem open_ints6 {r : Reach} {b0 : Nat} {t e : TypeId} {fs : Array Field} {v : Value} {d : DataW H} {p : List MemPlace} (hs : P.underlying t = some (.struct fs)) (he : P.underlying e = some (.int .i64))
    (hone : oneCellFields P fs = true) (hty : fieldsOf e fs = true) (hC : P.cellsOf t = fs.size) (h6 : fs.size = 6) (hv : Value.okWide P w r b0 t v) (h : DataW.Trod enc P w base spare held t v d p) :
    ∃ n0 n1 n2 n3 n4 n5 : Int, v = .agg #[.int .i64 n0, .int .i64 n1, .int .i64 n2, .int .i64 n3, .int .i64 n4, .int .i64 n5] ∧ d = .agg [.lit (.int .i64 n0), .lit (.int .i64 n1), .lit (.int .i64 n2), .lit (.int .i64 n3), .lit (.int .i64 n4), .lit (.int .i64 n5)] ∧ p = [] ∧ (Lit.int .i64 n0).wf = true ∧ (Lit.int .i64 n1).wf = true ∧ (Lit.int .i64 n2).wf = true ∧ (Lit.int .i64 n3).wf = true ∧ (Lit.int .i64 n4).wf = true ∧ (Lit.int .i64 n5).wf = true := by
  obtain ⟨ns, hl, hv', hd, hp, hw⟩ := open_ints hs he hone hty hC hv h
  obtain ⟨n0, n1, n2, n3, n4, n5, rfl⟩ := list6 (hl.trans h6)
  exact ⟨n0, n1, n2, n3, n4, n5, hv', hd, hp, hw n0 (by simp), hw n1 (by simp), hw n2 (by simp), hw n3 (by simp), hw n4 (by simp), hw n5 (by simp)⟩
theorem shut_ints6 {t e : TypeId} {fs : Array Field} {n0 n1 n2 n3 n4 n5 : Int} (hs : P.underlying t = some (.struct fs)) (he : P.underlying e = some (.int .i64))
    (hone : oneCellFields P fs = true) (hty : fieldsOf e fs = true) (hC : P.cellsOf t = fs.size) (h6 : fs.size = 6) (w0 : (Lit.int .i64 n0).wf = true) (w1 : (Lit.int .i64 n1).wf = true) (w2 : (Lit.int .i64 n2).wf = true) (w3 : (Lit.int .i64 n3).wf = true) (w4 : (Lit.int .i64 n4).wf = true) (w5 : (Lit.int .i64 n5).wf = true) :
    DataW.Trod enc P w base spare held t (.agg #[.int .i64 n0, .int .i64 n1, .int .i64 n2, .int .i64 n3, .int .i64 n4, .int .i64 n5]) (.agg [.lit (.int .i64 n0), .lit (.int .i64 n1), .lit (.int .i64 n2), .lit (.int .i64 n3), .lit (.int .i64 n4), .lit (.int .i64 n5)]) [] :=
  shut_ints (ns := [n0, n1, n2, n3, n4, n5]) hs he hone hty hC h6.symm (by intro m hm; simp at hm; rcases hm with rfl | rfl | rfl | rfl | rfl | rfl <;> assumption)
end

end Go.Proofs.Ytddcjdhlmlhgdaa
