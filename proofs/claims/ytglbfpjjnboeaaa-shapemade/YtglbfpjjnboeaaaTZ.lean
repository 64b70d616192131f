/- The one statement of Tape.Shape that draws its order ('s.Dash = append(s.Dash, t.Number(1, 5))'): in whatever order, one number more. It is walked on a frame of which only what it reads is known. -/
import Derived.Test.YtglbfpjjnboeaaaTY
import Derived.Great.Frames
namespace Go.Proofs.Ytglbfpjjnboeaaa
open Go Go.RowKit
open M

abbrev dashO0 : Oper := { dst := some 138, op := Op.fieldAddr 37 (Operand.tmp 3) 13, type := 0, pos := "doc.go:124", after := #[], guard := none }
abbrev dashO1 : Oper := { dst := some 139, op := Op.load 35 (Operand.tmp 138), type := 35, pos := "doc.go:124", after := #[{ on := 0, ground := Ground.data }], guard := none }
abbrev dashO2 : Oper := { dst := some 140, op := Op.move (Operand.tmp 0), type := 23, pos := "doc.go:124", after := #[], guard := none }
abbrev dashO3 : Oper := { dst := some 141, op := Op.call { callee := Callee.value (Operand.func 19), args := #[Operand.tmp 140, Operand.const (Value.int IntKind.i64 1), Operand.const (Value.int IntKind.i64 5)], argTypes := #[23, 3, 3] }, type := 2, pos := "doc.go:124", after := #[{ on := 2, ground := Ground.data }], guard := none }
abbrev dashO4 : Oper := { dst := some 142, op := Op.buildSlice 35 1 #[(0, Operand.tmp 141)], type := 35, pos := "doc.go:124", after := #[{ on := 3, ground := Ground.data }], guard := none }
abbrev dashO5 : Oper := { dst := some 143, op := Op.call { callee := Callee.builtin Builtin.append, args := #[Operand.tmp 139, Operand.tmp 142], argTypes := #[35, 35] }, type := 35, pos := "doc.go:124", after := #[{ on := 1, ground := Ground.data }, { on := 4, ground := Ground.data }, { on := 3, ground := Ground.chain }], guard := none }
abbrev dashO6 : Oper := { dst := some 144, op := Op.fieldAddr 37 (Operand.tmp 3) 13, type := 0, pos := "doc.go:124", after := #[{ on := 0, ground := Ground.phase }, { on := 1, ground := Ground.phase }, { on := 2, ground := Ground.phase }, { on := 3, ground := Ground.phase }, { on := 4, ground := Ground.phase }, { on := 5, ground := Ground.phase }], guard := none }
abbrev dashO7 : Oper := { dst := none, op := Op.store 35 (Operand.tmp 144) (Operand.tmp 143), type := 0, pos := "doc.go:124", after := #[{ on := 6, ground := Ground.data }, { on := 5, ground := Ground.data }, { on := 5, ground := Ground.chain }, { on := 0, ground := Ground.phase }, { on := 1, ground := Ground.phase }, { on := 2, ground := Ground.phase }, { on := 3, ground := Ground.phase }, { on := 4, ground := Ground.phase }, { on := 5, ground := Ground.phase }], guard := none }
abbrev dashL : Array Oper := #[dashO0, dashO1, dashO2, dashO3, dashO4, dashO5, dashO6, dashO7]
theorem run_d0 {ρ : Operand → Value} {A : Nat} (h : ρ (.tmp 3) = .pointer (some ⟨A, 0, none⟩)) (w : World) : (execOp ρ dashO0).run Try.prog w = .ok (.value (.pointer (some ⟨A, 29, none⟩))) w := by
  simp [execOp, h, go_sem]
theorem run_d1 {ρ : Operand → Value} {A : Nat} {w : World} {ao : Option Addr} {n c : Nat} (h : ρ (.tmp 138) = .pointer (some ⟨A, 29, none⟩)) (hc : w.cell? ⟨A, 29, none⟩ = some (.slice ao n c)) : (execOp ρ dashO1).run Try.prog w = .ok (.value (.slice ao n c)) w := by
  simp [execOp, h, hc, go_sem]
theorem run_d2 {ρ : Operand → Value} {p : Value} (h : ρ (.tmp 0) = p) (w : World) : (execOp ρ dashO2).run Try.prog w = .ok (.value p) w := by
  simp [execOp, h, go_sem]
theorem run_d3 {ρ : Operand → Value} {p : Value} (h : ρ (.tmp 140) = p) (hf : ρ (.func 19) = .func (.func 19) #[] #[]) (hc : ∀ v, ρ (.const v) = v) (w : World) : (execOp ρ dashO3).run Try.prog w = .ok (.enter 19 #[p, .int .i64 1, .int .i64 5]) w := by
  simp [execOp, h, hf, hc, go_sem]
theorem run_d4 {ρ : Operand → Value} {y : Int} (h : ρ (.tmp 141) = .int .i64 y) (w : World) : (execOp ρ dashO4).run Try.prog w = .ok (.value (.slice (some ⟨w.heap.size, 0, none⟩) 1 1)) (w.alloc (.cells #[.int .i64 y] 2)) := by
  simp [execOp, h, go_sem]
theorem run_d6 {ρ : Operand → Value} {A : Nat} (h : ρ (.tmp 3) = .pointer (some ⟨A, 0, none⟩)) (w : World) : (execOp ρ dashO6).run Try.prog w = .ok (.value (.pointer (some ⟨A, 29, none⟩))) w := by
  simp [execOp, h, go_sem]
theorem run_d7 {ρ : Operand → Value} {A : Nat} {w : World} {u : Value} {ao : Option Addr} {n c : Nat} (h : ρ (.tmp 144) = .pointer (some ⟨A, 29, none⟩)) (hv : ρ (.tmp 143) = .slice ao n c) (hc : w.cell? ⟨A, 29, none⟩ = some u) (hf : w.frozen? ⟨A, 29, none⟩ = false) : (execOp ρ dashO7).run Try.prog w = .ok .skip (w.setCell ⟨A, 29, none⟩ (.slice ao n c)) := by
  simp [execOp, h, hv, hc, hf, go_sem]

section
variable {Q : Exit → Act → World → Prop} {a : Act} {w wr W : World} {g A R M H : Nat} {v : Value} {z : Array Value} {s : Shp} {xs : List Int} {aod : Option Addr} {capd : Nat} {y : Int}
/-- What is left behind the load, the call and the new block: in one order. -/
theorem dash_tail (hw : Tp w g v) (hs : a.tmps.size = 155) (h3 : a.eval (.tmp 3) = .pointer (some ⟨A, 0, none⟩)) (h1 : a.eval (.tmp 139) = .slice aod xs.length capd) (h4 : a.eval (.tmp 142) = .slice (some ⟨H, 0, none⟩) 1 1)
    (hn : Has W H #[.int .i64 y] 2) (D : Dl w g v R A z M s xs (.slice aod xs.length capd) W) (hx : xs.length ≤ 2) (hy : okN y)
    (h : ∀ ao cap w', Dl w g v R A z M s (xs ++ [y]) (.slice ao (xs.length + 1) cap) w' → Q .normal ((a.put (some 143) (.slice ao (xs.length + 1) cap)).put (some 144) (.pointer (some ⟨A, 29, none⟩))) w') :
    wpAny Try.prog .any dashL Q 3 #[true, true, true, true, true, false, false, false] a W := by
  refine wpAny_ready (rs := [5]) (by kernel_rfl) (by simp) ?_
  refine AllReady.cons (o := dashO5) rfl (fun K hK => ?_) AllReady.nil
  rw [if_pos (by rfl)]
  refine wp_append_j (.tmp 139) (.tmp 142) rfl h1 H h4 y hn D.own (by omega) D.t.am.2 (fun t' w6 ho hg => hK _ _ ?_)
  clear hK K
  have t6 := D.t.step hw hg (fun k hk => (D.own.base k hk).1)
  have c6 := t6.has.cell 29 (.slice aod xs.length capd) rfl
  have fz := has_fro t6.has
  obtain ⟨ao, cap, rfl⟩ := ho.len1
  have D6 := D.snoc hw hy ho hg
  refine wpAny_ready (rs := [6]) (by kernel_rfl) (by simp) ?_
  refine AllReady.cons (o := dashO6) rfl (fun K hK => ?_) AllReady.nil
  rw [if_pos (by rfl)]
  unfold Oper.wp
  rw [run_d6 (A := A) (by rw [Act.eval_put_ne _ _ _ _ (by decide)]; exact h3)]
  refine hK _ _ ?_
  clear hK K
  refine wpAny_ready (rs := [7]) (by kernel_rfl) (by simp) ?_
  refine AllReady.cons (o := dashO7) rfl (fun K hK => ?_) AllReady.nil
  rw [if_pos (by rfl)]
  unfold Oper.wp
  rw [run_d7 (A := A) (Act.eval_put_same _ _ _ (by rw [Act.size_put, hs]; decide)) (by rw [Act.eval_put_ne _ _ _ _ (by decide)]; exact Act.eval_put_same _ _ _ (by rw [hs]; decide)) c6 (fz 29)]
  refine hK _ _ ?_
  clear hK K
  exact wpAny_done (by kernel_rfl) _ _ _ (h ao cap _ D6)
/-- The statement, in whatever order. -/
theorem dash_region (hw : Tp w g v) (hq : ∀ c (a : Act) d v w, Q (.panic c) (a.put d v) w → Q (.panic c) a w) (hs : a.tmps.size = 155) (h0 : a.eval (.tmp 0) = .pointer (some ⟨g, 0, none⟩)) (h3 : a.eval (.tmp 3) = .pointer (some ⟨A, 0, none⟩))
    (D : Dl w g v R A z M s xs (.slice aod xs.length capd) wr) (hx : xs.length ≤ 2)
    (h : ∀ y H ao cap w', Dl w g v R A z M s (xs ++ [y]) (.slice ao (xs.length + 1) cap) w' → Q .normal (((((((a.put (some 138) (.pointer (some ⟨A, 29, none⟩))).put (some 140) (.pointer (some ⟨g, 0, none⟩))).put (some 139) (.slice aod xs.length capd)).put (some 141) (.int .i64 y)).put (some 142) (.slice (some ⟨H, 0, none⟩) 1 1)).put (some 143) (.slice ao (xs.length + 1) cap)).put (some 144) (.pointer (some ⟨A, 29, none⟩))) w') :
    (Code.region 29 dashL true).wp Try.prog Q a wr := by
  refine wp_region_any (by kernel_rfl) ?_
  change wpAny Try.prog .any dashL Q 8 _ a (World.drew wr)
  have D0 := D.drew
  clear D
  obtain ⟨W, hW⟩ : ∃ W, wr.drew = W := ⟨_, rfl⟩
  rw [hW] at D0 ⊢
  clear hW
  refine wpAny_take (i := 0) (oi := dashO0) (v := .pointer (some ⟨A, 29, none⟩)) rfl (by kernel_rfl) (by kernel_rfl) (by kernel_rfl) (fun c a w => hq c a _ _ w) (Or.inl ⟨by rfl, fun w => run_d0 h3 w⟩) ?_
  refine wpAny_take (i := 2) (oi := dashO2) (v := .pointer (some ⟨g, 0, none⟩)) rfl (by kernel_rfl) (by kernel_rfl) (by kernel_rfl) (fun c a w => hq c a _ _ w) (Or.inl ⟨by rfl, fun w => run_d2 (by rw [show dashO0.dst = some 138 from rfl, Act.eval_put_ne _ _ _ _ (by decide)]; exact h0) w⟩) ?_
  rw [show dashO0.dst = some 138 from rfl, show dashO2.dst = some 140 from rfl]
  obtain ⟨b, hb⟩ : ∃ b, (a.put (some 138) (.pointer (some ⟨A, 29, none⟩))).put (some 140) (.pointer (some ⟨g, 0, none⟩)) = b := ⟨_, rfl⟩
  rw [hb]
  simp only [hb] at h
  have bs : b.tmps.size = 155 := by rw [← hb, Act.size_put, Act.size_put, hs]
  have b3 : b.eval (.tmp 3) = .pointer (some ⟨A, 0, none⟩) := by rw [← hb, Act.eval_put_ne _ _ _ _ (by decide), Act.eval_put_ne _ _ _ _ (by decide)]; exact h3
  have b138 : b.eval (.tmp 138) = .pointer (some ⟨A, 29, none⟩) := by rw [← hb, Act.eval_put_ne _ _ _ _ (by decide)]; exact Act.eval_put_same _ _ _ (by rw [hs]; decide)
  have b140 : b.eval (.tmp 140) = .pointer (some ⟨g, 0, none⟩) := by rw [← hb]; exact Act.eval_put_same _ _ _ (by rw [Act.size_put, hs]; decide)
  clear hb h0 h3 hs
  -- the call, on a frame c that agrees with b in slots 140, in a world W
  have call : ∀ (c : Act) (W : World) (K : Act → World → Prop), c.eval (.tmp 140) = .pointer (some ⟨g, 0, none⟩) → Dl w g v R A z M s xs (.slice aod xs.length capd) W → (∀ y W5, okN y → Dl w g v R A z M s xs (.slice aod xs.length capd) W5 → K (c.put (some 141) (.int .i64 y)) W5) → dashO3.wp Try.prog c W K Q := by
    intro c W K hc D hK
    unfold Oper.wp
    rw [run_d3 hc rfl (fun _ => rfl)]
    refine Calls.mono (t_number g v 1 5 W (by omega) (by omega) (by omega) D.t.tape) ?_
    rintro e w5 ⟨y, rfl, y0, y1, ht, hg⟩
    exact hK y w5 ⟨by omega, by omega⟩ (D.call ht hg)
  have sz : ∀ {c : Act} (d : Nat) (u : Value), c.tmps.size = 155 → (c.put (some d) u).tmps.size = 155 := fun d u hc => by rw [Act.size_put, hc]
  refine wpAny_ready (rs := [1, 3]) (by kernel_rfl) (by simp) ?_
  refine AllReady.cons (o := dashO1) rfl (fun K hK => ?_) (AllReady.cons (o := dashO3) rfl (fun K hK => ?_) AllReady.nil)
  · -- the load first
    rw [if_pos (by rfl)]
    unfold Oper.wp
    rw [run_d1 b138 (D0.t.has.cell 29 (.slice aod xs.length capd) rfl)]
    refine hK _ _ ?_
    clear hK K
    refine wpAny_ready (rs := [3]) (by kernel_rfl) (by simp) ?_
    refine AllReady.cons (o := dashO3) rfl (fun K hK => ?_) AllReady.nil
    rw [if_pos (by rfl)]
    refine call _ _ _ (by rw [show dashO1.dst = some 139 from rfl, Act.eval_put_ne _ _ _ _ (by decide)]; exact b140) D0 (fun y W5 hy D5 => hK _ _ ?_)
    clear hK K D0
    refine wpAny_ready (rs := [4]) (by kernel_rfl) (by simp) ?_
    refine AllReady.cons (o := dashO4) rfl (fun K hK => ?_) AllReady.nil
    rw [if_pos (by rfl)]
    unfold Oper.wp
    rw [run_d4 (Act.eval_put_same _ _ _ (by rw [Act.size_put, bs]; decide))]
    refine hK _ _ ?_
    clear hK K
    refine dash_tail hw (sz _ _ (sz _ _ (sz _ _ bs))) ?_ ?_ (Act.eval_put_same _ _ _ (by rw [Act.size_put, Act.size_put, bs]; decide)) has_new0 (D5.alloc _) hx hy (fun ao cap w' hD => h y _ ao cap w' hD)
    · rw [show dashO4.dst = some 142 from rfl, show dashO1.dst = some 139 from rfl, Act.eval_put_ne _ _ _ _ (by decide), Act.eval_put_ne _ _ _ _ (by decide), Act.eval_put_ne _ _ _ _ (by decide)]; exact b3
    · rw [show dashO4.dst = some 142 from rfl, show dashO1.dst = some 139 from rfl, Act.eval_put_ne _ _ _ _ (by decide), Act.eval_put_ne _ _ _ _ (by decide)]; exact Act.eval_put_same _ _ _ (by rw [bs]; decide)
  · -- the call first
    rw [if_pos (by rfl)]
    refine call _ _ _ b140 D0 (fun y W5 hy D5 => hK _ _ ?_)
    clear hK K D0
    refine wpAny_ready (rs := [1, 4]) (by kernel_rfl) (by simp) ?_
    refine AllReady.cons (o := dashO1) rfl (fun K hK => ?_) (AllReady.cons (o := dashO4) rfl (fun K hK => ?_) AllReady.nil)
    · rw [if_pos (by rfl)]
      unfold Oper.wp
      rw [run_d1 (A := A) (by rw [Act.eval_put_ne _ _ _ _ (by decide)]; exact b138) (D5.t.has.cell 29 (.slice aod xs.length capd) rfl)]
      refine hK _ _ ?_
      clear hK K
      refine wpAny_ready (rs := [4]) (by kernel_rfl) (by simp) ?_
      refine AllReady.cons (o := dashO4) rfl (fun K hK => ?_) AllReady.nil
      rw [if_pos (by rfl)]
      unfold Oper.wp
      rw [run_d4 (y := y) (by rw [show dashO1.dst = some 139 from rfl, Act.eval_put_ne _ _ _ _ (by decide)]; exact Act.eval_put_same _ _ _ (by rw [bs]; decide))]
      refine hK _ _ ?_
      clear hK K
      rw [show dashO4.dst = some 142 from rfl, show dashO1.dst = some 139 from rfl, Act.put_comm b (x := some 141) (y := some 139) _ _ (by decide)]
      refine dash_tail hw (sz _ _ (sz _ _ (sz _ _ bs))) ?_ ?_ (Act.eval_put_same _ _ _ (by rw [Act.size_put, Act.size_put, bs]; decide)) has_new0 (D5.alloc _) hx hy (fun ao cap w' hD => h y _ ao cap w' hD)
      · rw [Act.eval_put_ne _ _ _ _ (by decide), Act.eval_put_ne _ _ _ _ (by decide), Act.eval_put_ne _ _ _ _ (by decide)]; exact b3
      · rw [Act.eval_put_ne _ _ _ _ (by decide), Act.eval_put_ne _ _ _ _ (by decide)]; exact Act.eval_put_same _ _ _ (by rw [bs]; decide)
    · rw [if_pos (by rfl)]
      unfold Oper.wp
      rw [run_d4 (y := y) (Act.eval_put_same _ _ _ (by rw [bs]; decide))]
      refine hK _ _ ?_
      clear hK K
      refine wpAny_ready (rs := [1]) (by kernel_rfl) (by simp) ?_
      refine AllReady.cons (o := dashO1) rfl (fun K hK => ?_) AllReady.nil
      rw [if_pos (by rfl)]
      unfold Oper.wp
      rw [show dashO4.dst = some 142 from rfl]
      rw [run_d1 (A := A) (by rw [Act.eval_put_ne _ _ _ _ (by decide), Act.eval_put_ne _ _ _ _ (by decide)]; exact b138) ((D5.alloc _).t.has.cell 29 (.slice aod xs.length capd) rfl)]
      refine hK _ _ ?_
      clear hK K
      rw [show dashO1.dst = some 139 from rfl, Act.put_comm (b.put (some 141) _) (x := some 142) (y := some 139) _ _ (by decide), Act.put_comm b (x := some 141) (y := some 139) _ _ (by decide)]
      refine dash_tail hw (sz _ _ (sz _ _ (sz _ _ bs))) ?_ ?_ (Act.eval_put_same _ _ _ (by rw [Act.size_put, Act.size_put, bs]; decide)) has_new0 (D5.alloc _) hx hy (fun ao cap w' hD => h y _ ao cap w' hD)
      · rw [Act.eval_put_ne _ _ _ _ (by decide), Act.eval_put_ne _ _ _ _ (by decide), Act.eval_put_ne _ _ _ _ (by decide)]; exact b3
      · rw [Act.eval_put_ne _ _ _ _ (by decide), Act.eval_put_ne _ _ _ _ (by decide)]; exact Act.eval_put_same _ _ _ (by rw [bs]; decide)
end

end Go.Proofs.Ytglbfpjjnboeaaa
