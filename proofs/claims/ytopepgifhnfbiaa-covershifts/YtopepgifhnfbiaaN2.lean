/- Contracts of arc.side, .On, and of the reference's side, On: for all numbers what the plain arithmetic says; of the memory nothing that was there turns. -/
import Derived.Test.YtopepgifhnfbiaaN1
import Derived.Test.YtopepgifhnfbiaaD
import Derived.Test.YtopepgifhnfbiaaK
import Derived.Test.YtopepgifhnfbiaaMidQ
import Derived.Test.YtopepgifhnfbiaaJ
import Derived.Test.YtopepgifhnfbiaaTB7
import Derived.Test.YtopepgifhnfbiaaTwoP
namespace Go.Proofs.Ytopepgifhnfbiaa
open Go Go.RowKit
open M

theorem nset2 {W : World} {k : Nat} {t : TypeId} {a' b' : Value} (h : Has W k #[a', b'] t) (a b : Value) : Has ((W.setCell ⟨k, 0, none⟩ a).setCell ⟨k, 1, none⟩ b) k #[a, b] t := by
  have := has_set (has_set h 0 a) 1 b
  simpa using this
theorem noff2 {W : World} {k k' : Nat} {t : TypeId} {cs : Array Value} (h : Has W k cs t) (hne : k' ≠ k) (a b : Value) : Has ((W.setCell ⟨k', 0, none⟩ a).setCell ⟨k', 1, none⟩ b) k cs t :=
  (heap_setCell_other _ ⟨k', _, none⟩ k _ (fun e => hne (by simpa using e.symm))).trans ((heap_setCell_other _ ⟨k', _, none⟩ k _ (fun e => hne (by simpa using e.symm))).trans h)
/-- The two results of a call, stored. -/
theorem two_res {w w' : World} {k k2 : Nat} {t : TypeId} {p q : Pt} (h : Has w' k #[.int .i64 0, .int .i64 0] t) (h2 : Has w' k2 #[.int .i64 0, .int .i64 0] t) (hne : k ≠ k2) (hb : Below w.heap.size w w') (hk : w.heap.size ≤ k) (hk2 : w.heap.size ≤ k2) :
    ∃ U, (((w'.setCell ⟨k, 0, none⟩ (.int .i64 p.x)).setCell ⟨k, 1, none⟩ (.int .i64 p.y)).setCell ⟨k2, 0, none⟩ (.int .i64 q.x)).setCell ⟨k2, 1, none⟩ (.int .i64 q.y) = U ∧ Has U k (pCells p) t ∧ Has U k2 (pCells q) t ∧ Below w.heap.size w U :=
  ⟨_, rfl, noff2 (nset2 h _ _) (Ne.symm hne) _ _, nset2 (noff2 h2 hne _ _) _ _, (((hb.setCell hk _).setCell hk _).setCell hk2 _).setCell hk2 _⟩

set_option maxRecDepth 100000 in
set_option maxHeartbeats 2000000 in
theorem r9_side (c : Bool) {ao : Option Addr} {N cap i : Nat} {ps : List Pt} {w : World} (h : Psl w (.slice ao N cap) ps) (hN : ps.length = N) (hi : i < N) :
    Calls Try.prog 49 #[.agg #[.bool c, .slice ao N cap], .int .i64 (i : Int)] w fun r w' => r = .returned (.tuple #[.agg (pCells (sa ps i)), .agg (pCells (sb ps i))]) ∧ Below w.heap.size w w' := by
  have hf : N ≤ 8796093022208 := by have := h.few; omega
  obtain ⟨B, hB⟩ : ∃ B, w.heap.size = B := ⟨_, rfl⟩
  obtain ⟨W, hW⟩ : ∃ W, ((w.alloc (.cells #[.bool c, .slice ao N cap] 31)).alloc (.cells #[.int .i64 0, .int .i64 0] 28)).alloc (.cells #[.int .i64 0, .int .i64 0] 28) = W := ⟨_, rfl⟩
  have ha : Has W B #[.bool c, .slice ao N cap] 31 := by rw [← hW]; exact ((has_new hB).alloc _).alloc _
  have hr : Has W (B + 1) #[.int .i64 0, .int .i64 0] 28 := by rw [← hW]; exact (has_new (by simp [hB])).alloc _
  have hc : Has W (B + 1 + 1) #[.int .i64 0, .int .i64 0] 28 := by rw [← hW]; exact has_new (by simp [hB])
  have hbl : Below w.heap.size w W := by rw [← hW]; exact (((Below.refl _ _).alloc (by omega) _).alloc (by simp) _).alloc (by simp; omega) _
  have hs := h.below hbl (Nat.le_refl _)
  obtain ⟨g, o, e1, row⟩ : ∃ g o, ao = some ⟨g, o, none⟩ ∧ Prow W g o ps := by
    obtain ⟨ao', cap', hv, _, hr⟩ := hs
    simp at hv
    obtain ⟨rfl, _⟩ := hv
    exact hr (by omega)
  subst e1
  obtain ⟨j, hj⟩ : ∃ j, nxt N i = j := ⟨_, rfl⟩
  obtain ⟨p, hp⟩ : ∃ p, pt ps i = p := ⟨_, rfl⟩
  obtain ⟨q, hq⟩ : ∃ q, pt ps j = q := ⟨_, rfl⟩
  have ea : sa ps i = plc p := by unfold sa; rw [hp]
  have eb : sb ps i = plc q := by unfold sb; rw [hN, hj, hq]
  have hjl : j < N := by rw [← hj]; exact nxt_lt hi
  have hmod : Int.tmod ((i : Int) + 1) (N : Int) = (j : Int) := by rw [nxt_mod hi, hj]
  rw [ea, eb]
  have PX : Hid (∀ (R : World → Prop) (z : LaterR W R), (z.to.cell? ⟨g, o + i * 2, none⟩ = some (.int .i64 p.x) ∧ z.to.cell? ⟨g, o + i * 2 + 1, none⟩ = some (.int .i64 p.y)) ∧ (z.to.cell? ⟨g, o + j * 2, none⟩ = some (.int .i64 q.x) ∧ z.to.cell? ⟨g, o + j * 2 + 1, none⟩ = some (.int .i64 q.y))) := Lib.hid (fun R z => ⟨row.laterR (by omega) hp z, row.laterR (by omega) hq z⟩)
  have HA := Lib.hid ha
  have HR := Lib.hid hr
  have HC := Lib.hid hc
  have HBL := Lib.hid hbl
  have HW := Lib.hid hW
  have HB := Lib.hid hB
  clear ha hr hc hbl hs hW row ea eb hp hq h hN hj
  have tail : ∀ w3, Below W.heap.size W w3 → ∃ U, (((w3.setCell ⟨B + 1, 0, none⟩ (.int .i64 (plc p).x)).setCell ⟨B + 1, 1, none⟩ (.int .i64 (plc p).y)).setCell ⟨B + 1 + 1, 0, none⟩ (.int .i64 (plc q).x)).setCell ⟨B + 1 + 1, 1, none⟩ (.int .i64 (plc q).y) = U ∧ Has U (B + 1) (pCells (plc p)) 28 ∧ Has U (B + 1 + 1) (pCells (plc q)) 28 ∧ Below w.heap.size w U := fun w3 hb3 =>
    two_res (HR.out.below hb3 HR.out.lt) (HC.out.below hb3 HC.out.lt) (by omega) (HBL.out.trans (hb3.mono HBL.out.size)) (by have := HB.out; omega) (by have := HB.out; omega)
  have TL := Lib.hid tail
  clear tail
  have oi : (i : Int) < N := by omega
  have oj : (j : Int) < N := by omega
  have oN : ¬ (N : Int) = 0 := by omega
  go_enter Try.func49, Try.ntmps49
  go_upto_region 1 with fail
  rw [HW.out]
  clear hB
  refine wp_region_make0 17 (by kernel_rfl) (by kernel_rfl) (by kernel_rfl) ?_
  apply Exists.intro
  refine ⟨fun R hR hN => ?_, ?_⟩
  · have y1 := fun z => LaterR.read (R := R) HA.out 1 _ rfl z
    have A0 := fun z => (PX.out R z).1.1
    have A1 := fun z => (PX.out R z).1.2
    have B0 := fun z => (PX.out R z).2.1
    have B1 := fun z => (PX.out R z).2.2
    simp only [List.take_succ_cons, List.take_zero]
    repeat (go_big_quiet_step (first | (go_at_call 53; exact LaterR.calls hR (r9_placed _ _))))
    exact wpQuiet_nil rfl
  · intro w3 hb3
    simp only [List.drop_succ_cons, List.drop_zero]
    obtain ⟨U, hU, k1, k2, bU⟩ := TL.out w3 hb3
    have c0 := (HR.out.below hb3 HR.out.lt).cell 0 _ rfl
    have c1 := (HR.out.below hb3 HR.out.lt).cell 1 _ rfl
    have d0 := (HC.out.below hb3 HC.out.lt).cell 0 _ rfl
    have d1 := (HC.out.below hb3 HC.out.lt).cell 1 _ rfl
    have f0 := has_fro (HR.out.below hb3 HR.out.lt)
    have f1 := has_fro (HC.out.below hb3 HC.out.lt)
    have u0 := k1.cell 0 _ rfl
    have u1 := k1.cell 1 _ rfl
    have u2 := k2.cell 0 _ rfl
    have u3 := k2.cell 1 _ rfl
    have BU := Lib.hid bU
    have HU := Lib.hid hU
    clear k1 k2 bU hU hb3
    go_wp2
    rw [HU.out]
    refine bodyPost_ret (v := .tuple #[.agg (pCells (plc p)), .agg (pCells (plc q))]) (by simp [results, Try.results49, go_sem, u0, u1, u2, u3]) rfl ⟨rfl, BU.out⟩


theorem still {f : FuncId} {args : Array Value} {w : World} {v : Value} (h : Calls Try.prog f args w fun e w' => e = .returned v ∧ w = w') : Calls Try.prog f args w fun e w' => e = .returned v ∧ Below w.heap.size w w' :=
  h.mono fun _ _ ⟨he, hw⟩ => ⟨he, hw ▸ Below.refl _ _⟩
theorem drawnB {f : FuncId} {args : Array Value} {w : World} {v : Value} (h : Calls Try.prog f args w (Drawn v w)) : Calls Try.prog f args w fun e w' => e = .returned v ∧ Below w.heap.size w w' :=
  h.mono fun _ _ ⟨he, n, hw⟩ => ⟨he, hw ▸ below_drewN (Below.refl _ _) n⟩
theorem two_put9 {w w' : World} {k k2 : Nat} {t : TypeId} {p q : Pt} {x1 x2 x3 x4 : Value} (h : Has w' k #[x1, x2] t) (h2 : Has w' k2 #[x3, x4] t) (hne : k ≠ k2) (hb : Below w.heap.size w w') (hk : w.heap.size ≤ k) (hk2 : w.heap.size ≤ k2) :
    ∃ U, (((w'.setCell ⟨k, 0, none⟩ (.int .i64 p.x)).setCell ⟨k, 1, none⟩ (.int .i64 p.y)).setCell ⟨k2, 0, none⟩ (.int .i64 q.x)).setCell ⟨k2, 1, none⟩ (.int .i64 q.y) = U ∧ Has U k (pCells p) t ∧ Has U k2 (pCells q) t ∧ Below w.heap.size w U :=
  ⟨_, rfl, noff2 (nset2 h _ _) (Ne.symm hne) _ _, nset2 (noff2 h2 hne _ _) _ _, (((hb.setCell hk _).setCell hk _).setCell hk2 _).setCell hk2 _⟩

end Go.Proofs.Ytopepgifhnfbiaa
