/- A shape in the making, at its beginning ('shF'), its colours, its dash; appends of one key and of one number. -/
import Derived.Test.YtglbfpjjnboeaaaTX
import Derived.Test.YtglbfpjjnboeaaaCO
import Derived.Deep.RegionHeld3
import Derived.Deep.RegionLaw
namespace Go.Proofs.Ytglbfpjjnboeaaa
open Go Go.RowKit
open M

abbrev crF : Cr := ⟨0, 0, 0, 0⟩
abbrev nilF : Value := .slice none 0 0
/-- A shape of which the form alone is given. -/
abbrev shF (f n : Int) : Shp := { form := f, n := n, W := [], vW := nilF, H := [], vH := nilF, P := [], vP := nilF, fill := false, rule := 0, kind := 0, a := crF, b := crF, p := ⟨0, 0⟩, q := ⟨0, 0⟩, r := 0, C := [], vC := nilF, stroke := false, Wd := [], vWd := nilF, line := crF, cap := 0, D := [], vD := nilF, F := [], vF := nilF, T := [], vT := nilF }
theorem shF_lsts (A M : Nat) (f n : Int) (W : World) : Lsts A M (shF f n) W :=
  ⟨⟨Or.inl ⟨rfl, _, _, rfl⟩, Or.inl ⟨rfl, _, _, rfl⟩, ⟨none, 0, rfl, by simp, fun h => by simp at h⟩, Or.inl ⟨rfl, _, _, rfl⟩, Or.inl ⟨rfl, _, _, rfl⟩, isl_nil W none 0, Or.inl ⟨rfl, _, _, rfl⟩, Or.inl ⟨rfl, _, _, rfl⟩⟩,
    Btw.nil _ _ _ _, Btw.nil _ _ _ _, Btw.nil _ _ _ _, fun i hi => by simp at hi, Btw.nil _ _ _ _, Btw.nil _ _ _ _, Btw.nil _ _ _ _, Btw.nil _ _ _ _, Btw.nil _ _ _ _⟩
theorem shF_rest (f n : Int) : OkR (shF f n) := ⟨Or.inl rfl, (show (0 : Int) ≤ 0 ∧ (0 : Int) ≤ 2 by omega), (show (-262144 : Int) ≤ 0 ∧ (0 : Int) ≤ 851967 ∧ (-262144 : Int) ≤ 0 ∧ (0 : Int) ≤ 851967 ∧ (-262144 : Int) ≤ 0 ∧ (0 : Int) ≤ 851967 ∧ (-262144 : Int) ≤ 0 ∧ (0 : Int) ≤ 851967 ∧ (0 : Int) ≤ 0 ∧ (0 : Int) ≤ 851967 by omega), rfl, rfl, Or.inl rfl, rfl, rfl, rfl⟩
theorem shF_form {f n : Int} (h : OkN (shF f n)) (hf : f ≠ 3) {W H : List Ky} {vW vH : Value} (k : K60 1 14 W) (l : K60 1 14 H) : Made3 { shF f n with W := W, vW := vW, H := H, vH := vH } :=
  have r := shF_rest f n
  ⟨⟨h.f0, h.f3, h.n⟩, Or.inl ⟨hf, k, l, rfl⟩, ⟨r.rule, r.kind, r.place, r.C, r.Wd, r.cap, r.D, r.F, r.T⟩⟩
theorem shF_drawn {n : Int} (h : OkN (shF 3 n)) {ks : List Pk} {vP : Value} (k : Mk2 ks) (l : 0 < ks.length) : Made3 { shF 3 n with P := ks, vP := vP } :=
  have r := shF_rest 3 n
  ⟨⟨h.f0, h.f3, h.n⟩, Or.inr ⟨rfl, rfl, rfl, k, l⟩, ⟨r.rule, r.kind, r.place, r.C, r.Wd, r.cap, r.D, r.F, r.T⟩⟩
theorem owns_len {w : World} {B k n : Nat} {e : TypeId} {l : Value} {xs : List Value} (h : w.ownsRow B e k l (n + 1) xs) : ∃ ao cap, l = .slice ao (n + 1) cap := by
  rcases h.2 with ⟨rfl, hn⟩ | ⟨g, cap, cur, rfl, _⟩
  · omega
  · exact ⟨_, cap, rfl⟩
theorem TS2.setW {w : World} {g : Nat} {v : Value} {R A M B : Nat} {z : Array Value} {s : Shp} {W w4 : World} {l l' : Value} {qs : List Ky} {k : Ky} (hw : Tp w g v) (h : TS2 w g v R A z M s W) (hl : Own W B l qs) (hB : M ≤ B) (hf : qs.length ≤ 3)
    (ho : w4.ownsRow B 63 7 l' (qs.length + 1) (kls qs ++ kl k)) (hg : W.grownBy w4 l.ownBlock) : TS2 w g v R A z w4.heap.size { s with W := qs ++ [k], vW := l' } (w4.setCell ⟨A, 2, none⟩ l') :=
  have t := TS3.keys hw h hl hB hf ho hg
  t.1.put hw 2 l' rfl (t.1.lsts.setW t.2.1 t.2.2)
theorem TS2.setH {w : World} {g : Nat} {v : Value} {R A M B : Nat} {z : Array Value} {s : Shp} {W w4 : World} {l l' : Value} {qs : List Ky} {k : Ky} (hw : Tp w g v) (h : TS2 w g v R A z M s W) (hl : Own W B l qs) (hB : M ≤ B) (hf : qs.length ≤ 3)
    (ho : w4.ownsRow B 63 7 l' (qs.length + 1) (kls qs ++ kl k)) (hg : W.grownBy w4 l.ownBlock) : TS2 w g v R A z w4.heap.size { s with H := qs ++ [k], vH := l' } (w4.setCell ⟨A, 3, none⟩ l') :=
  have t := TS3.keys hw h hl hB hf ho hg
  t.1.put hw 3 l' rfl (t.1.lsts.setH t.2.1 t.2.2)
/-- One key more. -/
theorem wpList_append_ky {W : World} {B : Nat} {l : Value} {qs : List Ky} {ops : Array Oper} {rest : List Oper} {op : Oper} {a : Act} {Q : Exit → Act → World → Prop} (hgd : op.guard = none) (s x : Operand)
    (hop : op.op = .call { callee := .builtin .append, args := #[s, x], argTypes := #[26, 26] }) (hs : a.eval s = l) (H : Nat) (hx : a.eval x = .slice (some ⟨H, 0, none⟩) 1 1) (k : Ky) (hn : Has W H (kCells k) 63)
    (ho : Own W B l qs) (hf : qs.length ≤ 900) (hb : B ≤ W.heap.size)
    (h : ∀ t' w', w'.ownsRow B 63 7 t' (qs.length + 1) (kls qs ++ kl k) → W.grownBy w' l.ownBlock → wpList Try.prog ops Q rest (a.put op.dst t') w') : wpList Try.prog ops Q (op :: rest) a W := by
  obtain ⟨j0, hj, hy0, hy1, hy2⟩ := info_parts Try.infoKey
  refine wpList_append_near _ hgd s x 26 hop B 63 j0 (.agg #[.int .i64 0, .int .i64 0, .int .i64 0, .int .i64 0, .int .i64 0, .int .i64 0, .int .i64 0]) 7 56 Try.underlying26 hj hy0 hy1 hy2 rfl (by decide) l qs.length (kls qs) hs ho ⟨H, 0, none⟩ 1 1 (kl k) hx rfl ?_ (ints_one_kl k) ?_ ?_ hb ?_
  · intro j u hu
    rw [Addr.add_lit, Nat.zero_add]
    exact hn.cell j u (by simpa [kl] using hu)
  · unfold maxLen; omega
  · omega
  · intro t' w' ho' hg _
    exact h t' w' ho' hg

theorem colors_right {x y : Int} (a b : Cr) (x0 : 0 ≤ x) (x1 : x ≤ 4) (y0 : 0 ≤ y) (y1 : y ≤ 8) : right (bares [⟨x, a, 1, 0, 0, 0, 0⟩, ⟨5 + y, b, 0, 0, 0, 0, 0⟩]) = true := by
  have e0 : ky (bares [⟨x, a, 1, 0, 0, 0, 0⟩, ⟨5 + y, b, 0, 0, 0, 0, 0⟩]) 0 = ⟨x, 0, 1, 0, 0, 0, 0⟩ := rfl
  have e1 : ky (bares [⟨x, a, 1, 0, 0, 0, 0⟩, ⟨5 + y, b, 0, 0, 0, 0, 0⟩]) 1 = ⟨5 + y, 0, 0, 0, 0, 0, 0⟩ := rfl
  unfold right
  show (_ && rightN _ 2) = true
  unfold rightN rightN rightN
  rw [show (1 - 1 : Nat) = 0 from rfl, e0, e1]
  unfold okK okIn okHow
  simp [bares]
  omega
/-- Two keys of colours, in a block of their own. -/
theorem colors_lie {w : World} {g : Nat} {x y : Int} {a b : Cr} (ha : a.Ok) (hb : b.Ok) (h : Has w g #[.int .i64 x, .int .u8 a.r, .int .u8 a.g, .int .u8 a.b, .int .u8 a.q, .int .i64 1, .int .i64 0, .int .i64 0, .int .i64 0, .int .i64 0, .int .i64 (5 + y), .int .u8 b.r, .int .u8 b.g, .int .u8 b.b, .int .u8 b.q, .int .i64 0, .int .i64 0, .int .i64 0, .int .i64 0, .int .i64 0] 67) :
    Csl w (.slice (some ⟨g, 0, none⟩) 2 2) [⟨x, a, 1, 0, 0, 0, 0⟩, ⟨5 + y, b, 0, 0, 0, 0, 0⟩] := by
  refine csl_lit 2 2 rfl (by omega) (by omega) (fun i hi => ?_) h rfl
  have hi : i < 2 := hi
  rcases (show i = 0 ∨ i = 1 by omega) with rfl | rfl
  · exact ha
  · exact hb
theorem MT.open {w : World} {g : Nat} {v : Value} {R A M : Nat} {z : Array Value} {W : World} (h : MT true w g v R A z M W) : ∃ s : Shp, Made3 s ∧ Dl w g v R A z W.heap.size s [] (.slice none 0 0) W := by
  obtain ⟨s, m, d, t⟩ := h.up
  obtain ⟨-, e⟩ := d rfl
  have hc : shC { s with D := [], vD := .slice none 0 0 } = shC s := by simp [e]
  exact ⟨s, m, ⟨by rw [hc]; exact t, Jown.nil _ _, fun i hi => by simp at hi⟩⟩
theorem wp_append_j {W : World} {B : Nat} {l : Value} {xs : List Int} {op : Oper} {a : Act} {K : Act → World → Prop} {Q : Exit → Act → World → Prop} (s x : Operand)
    (hop : op.op = .call { callee := .builtin .append, args := #[s, x], argTypes := #[35, 35] }) (hs : a.eval s = l) (H : Nat) (hx : a.eval x = .slice (some ⟨H, 0, none⟩) 1 1) (y : Int) (hn : Has W H #[.int .i64 y] 2)
    (ho : Jown W B l xs) (hf : xs.length ≤ 900) (hb : B ≤ W.heap.size)
    (h : ∀ t' w', Jown w' B t' (xs ++ [y]) → W.grownBy w' l.ownBlock → K (a.put op.dst t') w') : op.wp Try.prog a W K Q := by
  obtain ⟨j0, hj, hy0, hy1, hy2⟩ := info_parts Try.infoI64
  obtain ⟨v', w', hr, h2, h3, h4⟩ := run_append_near (P := Try.prog) W B 35 op.type 2 j0 (.int .i64 0) 1 8 Try.underlying35 hj hy0 hy1 hy2 rfl (by decide) l xs.length (xs.map (Value.int .i64)) ho ⟨H, 0, none⟩ 1 1 [.int .i64 y] rfl
    (by
      intro j u hu
      rw [Addr.add_lit, Nat.zero_add]
      exact hn.cell j u (by simpa using hu))
    (by
      intro u hu
      simp at hu
      subst hu
      rfl) (by unfold maxLen; omega) (by omega) hb
  unfold Oper.wp execOp
  simp only [hop, resolve, invoke, builtin, Sem.run_bind, Sem.run_pure, Result.andThen_ok, List.map_toArray, List.map_cons, List.map_nil, hs, hx, hr]
  exact h v' w' (by unfold Jown; simpa using h2) h3
theorem step_append_j {W : World} {B : Nat} {l : Value} {xs : List Int} {ops : Array Oper} {op : Oper} {a : Act} {K : Act → World → Prop} {Q : Exit → Act → World → Prop} {E : Prop} (hw : Region.wanted op (yielded ops a.tmps) = true) (s x : Operand)
    (hop : op.op = .call { callee := .builtin .append, args := #[s, x], argTypes := #[35, 35] }) (hs : a.eval s = l) (H : Nat) (hx : a.eval x = .slice (some ⟨H, 0, none⟩) 1 1) (y : Int) (hn : Has W H #[.int .i64 y] 2)
    (ho : Jown W B l xs) (hf : xs.length ≤ 900) (hb : B ≤ W.heap.size)
    (h : ∀ t' w', Jown w' B t' (xs ++ [y]) → W.grownBy w' l.ownBlock → K (a.put op.dst t') w') :
    if Region.wanted op (yielded ops a.tmps) = true then Oper.wp Try.prog op a W K Q else E := by
  rw [if_pos hw]
  exact wp_append_j s x hop hs H hx y hn ho hf hb h
theorem Jown.len1 {w : World} {B : Nat} {v : Value} {xs : List Int} {y : Int} (h : Jown w B v (xs ++ [y])) : ∃ ao cap, v = .slice ao (xs.length + 1) cap := by
  obtain ⟨ao, cap, e⟩ := h.len
  exact ⟨ao, cap, by rw [e]; simp⟩
theorem ShIn.ones {w : World} {s : Shp} (h : ShIn w s) : ((shC s).all fun x => x.oneCell') = true := by
  have eW : s.vW.oneCell' = true := by obtain ⟨_, ao, cap, e⟩ := h.W.len; rw [e]; rfl
  have eH : s.vH.oneCell' = true := by obtain ⟨_, ao, cap, e⟩ := h.H.len; rw [e]; rfl
  have eP : s.vP.oneCell' = true := by obtain ⟨_, ao, cap, e⟩ := h.P.len; rw [e]; rfl
  have eC : s.vC.oneCell' = true := by obtain ⟨_, ao, cap, e⟩ := h.C.len; rw [e]; rfl
  have eD : s.vD.oneCell' = true := by obtain ⟨ao, cap, e, _⟩ := h.D; rw [e]; rfl
  have eL : s.vWd.oneCell' = true := by obtain ⟨_, ao, cap, e⟩ := h.Wd.len; rw [e]; rfl
  have eF : s.vF.oneCell' = true := by obtain ⟨_, ao, cap, e⟩ := h.F.len; rw [e]; rfl
  have eT : s.vT.oneCell' = true := by obtain ⟨_, ao, cap, e⟩ := h.T.len; rw [e]; rfl
  have i : ∀ k x, (Value.int k x).oneCell' = true := fun _ _ => rfl
  have b : ∀ x, (Value.bool x).oneCell' = true := fun _ => rfl
  simp [eW, eH, eP, eC, eD, eL, eF, eT, i, b]

end Go.Proofs.Ytglbfpjjnboeaaa
