/- Contracts of arc.side, .On, and of the reference's side, On: for all numbers what the plain arithmetic says; of the memory nothing that was there turns. -/
import Derived.Test.YtgnmiilmmbblmaaN1
import Derived.Test.YtgnmiilmmbblmaaD
import Derived.Test.YtgnmiilmmbblmaaK
import Derived.Test.YtgnmiilmmbblmaaMidQ
import Derived.Test.YtgnmiilmmbblmaaMidR
import Derived.Test.YtgnmiilmmbblmaaTB7
namespace Go.Proofs.Ytgnmiilmmbblmaa
open Go Go.RowKit
open M

theorem nset2 {W : World} {k : Nat} {t : TypeId} {a' b' : Value} (h : Has W k #[a', b'] t) (a b : Value) : Has ((W.setCell ⟨k, 0, none⟩ a).setCell ⟨k, 1, none⟩ b) k #[a, b] t := by
  have := has_set (has_set h 0 a) 1 b
  simpa using this
theorem noff2 {W : World} {k k' : Nat} {t : TypeId} {cs : Array Value} (h : Has W k cs t) (hne : k' ≠ k) (a b : Value) : Has ((W.setCell ⟨k', 0, none⟩ a).setCell ⟨k', 1, none⟩ b) k cs t :=
  (heap_setCell_other _ ⟨k', _, none⟩ k _ (fun e => hne (by simpa using e.symm))).trans ((heap_setCell_other _ ⟨k', _, none⟩ k _ (fun e => hne (by simpa using e.symm))).trans h)
/-- The two results of a call, stored. -/
theorem two_res {w w' : World} {k k2 : Nat} {t : TypeId} {p q : Pt} (h : Has w' k #[.int .i64 0, .int .i64 0] t) (h2 : Has w' k2 #[.int .i64 0, .int .i64 0] t) (hne : k ≠ k2) (hb : Below w.heap.size w w') (hk : w.heap.size ≤ k) (hk2 : w.heap.size ≤ k2) :
    ∃ U, (((w'.setCell ⟨k, 0, none⟩ (.int .i64 p.x)).setCell ⟨k, 1, none⟩ (.int .i64 p.y)).setCell ⟨k2, 0, none⟩ (.int .i64 q.x)).setCell ⟨k2, 1, none⟩ (.int .i64 q.y) = U ∧ Has U k (pCells p) t ∧ Has U k2 (pCells q) t ∧ Below w.heap.size w U :=
  ⟨_, rfl, noff2 (nset2 h _ _) (Ne.symm hne) _ _, nset2 (noff2 h2 hne _ _) _ _, (((hb.setCell hk _).setCell hk _).setCell hk2 _).setCell hk2 _⟩
theorem Prow.laterR {w : World} {R : World → Prop} {g o : Nat} {ps : List Pt} (h : Prow w g o ps) {i : Nat} (hi : i < ps.length) {p : Pt} (hp : pt ps i = p) (z : LaterR w R) : z.to.cell? ⟨g, o + i * 2, none⟩ = some (.int .i64 p.x) ∧ z.to.cell? ⟨g, o + i * 2 + 1, none⟩ = some (.int .i64 p.y) := by
  have h2 := h.block (z.below.block g (h.lt (by omega)))
  rw [← hp]
  exact ⟨h2.c0 i hi, h2.c1 i hi⟩

set_option maxRecDepth 100000 in
set_option maxHeartbeats 2000000 in
theorem a_side (c : Bool) {ao : Option Addr} {N cap i : Nat} {ps : List Pt} {w : World} (h : Psl w (.slice ao N cap) ps) (hN : ps.length = N) (hi : i < N) :
    Calls Try.prog 35 #[.agg #[.bool c, .slice ao N cap], .int .i64 (i : Int)] w fun r w' => r = .returned (.tuple #[.agg (pCells (sa ps i)), .agg (pCells (sb ps i))]) ∧ Below w.heap.size w w' := by
  have hf : N ≤ 8796093022208 := by have := h.few; omega
  obtain ⟨B, hB⟩ : ∃ B, w.heap.size = B := ⟨_, rfl⟩
  obtain ⟨W, hW⟩ : ∃ W, ((w.alloc (.cells #[.bool c, .slice ao N cap] 24)).alloc (.cells #[.int .i64 0, .int .i64 0] 31)).alloc (.cells #[.int .i64 0, .int .i64 0] 31) = W := ⟨_, rfl⟩
  have ha : Has W B #[.bool c, .slice ao N cap] 24 := by rw [← hW]; exact ((has_new hB).alloc _).alloc _
  have hr : Has W (B + 1) #[.int .i64 0, .int .i64 0] 31 := by rw [← hW]; exact (has_new (by simp [hB])).alloc _
  have hc : Has W (B + 1 + 1) #[.int .i64 0, .int .i64 0] 31 := by rw [← hW]; exact has_new (by simp [hB])
  have hbl : Below w.heap.size w W := by rw [← hW]; exact (((Below.refl _ _).alloc (by omega) _).alloc (by simp) _).alloc (by simp; omega) _
  have hs := h.below hbl (Nat.le_refl _)
  obtain ⟨g, o, e1, row⟩ : ∃ g o, ao = some ⟨g, o, none⟩ ∧ Prow W g o ps := by
    obtain ⟨ao', cap', hv, _, hr⟩ := hs
    simp at hv
    obtain ⟨rfl, _⟩ := hv
    exact hr (by omega)
  subst e1
  obtain ⟨j, hj⟩ : ∃ j, nxt N i = j := ⟨_, rfl⟩
  obtain ⟨p, hp⟩ : ∃ p, pt ps i = p := ⟨_, rfl⟩
  obtain ⟨q, hq⟩ : ∃ q, pt ps j = q := ⟨_, rfl⟩
  have ea : sa ps i = plc p := by unfold sa; rw [hp]
  have eb : sb ps i = plc q := by unfold sb; rw [hN, hj, hq]
  have hjl : j < N := by rw [← hj]; exact nxt_lt hi
  rw [ea, eb]
  have PX : Hid (∀ (R : World → Prop) (z : LaterR W R), (z.to.cell? ⟨g, o + i * 2, none⟩ = some (.int .i64 p.x) ∧ z.to.cell? ⟨g, o + i * 2 + 1, none⟩ = some (.int .i64 p.y)) ∧ (z.to.cell? ⟨g, o + j * 2, none⟩ = some (.int .i64 q.x) ∧ z.to.cell? ⟨g, o + j * 2 + 1, none⟩ = some (.int .i64 q.y))) := Lib.hid (fun R z => ⟨row.laterR (by omega) hp z, row.laterR (by omega) hq z⟩)
  have HA := Lib.hid ha
  have HR := Lib.hid hr
  have HC := Lib.hid hc
  have HBL := Lib.hid hbl
  have HW := Lib.hid hW
  have HB := Lib.hid hB
  have a1 := ha.cell 1 _ rfl
  clear ha hr hc hbl hs hW row ea eb hp hq h hN
  have tail : ∀ w3, Below W.heap.size W w3 → ∃ U, (((w3.setCell ⟨B + 1, 0, none⟩ (.int .i64 (plc p).x)).setCell ⟨B + 1, 1, none⟩ (.int .i64 (plc p).y)).setCell ⟨B + 1 + 1, 0, none⟩ (.int .i64 (plc q).x)).setCell ⟨B + 1 + 1, 1, none⟩ (.int .i64 (plc q).y) = U ∧ Has U (B + 1) (pCells (plc p)) 31 ∧ Has U (B + 1 + 1) (pCells (plc q)) 31 ∧ Below w.heap.size w U := fun w3 hb3 =>
    two_res (HR.out.below hb3 HR.out.lt) (HC.out.below hb3 HC.out.lt) (by omega) (HBL.out.trans (hb3.mono HBL.out.size)) (by have := HB.out; omega) (by have := HB.out; omega)
  have TL := Lib.hid tail
  clear tail
  have oi : (i : Int) < N := by omega
  have oj : (j : Int) < N := by omega
  by_cases hl : i + 1 = N
  · rw [nxt_last hl] at hj
    subst hj
    have ol : (i : Int) + 1 = N := by omega
    simp only [Nat.zero_mul, Nat.add_zero] at PX
    go_enter Try.func35, Try.ntmps35
    go_upto_region 1 with fail
    rw [HW.out]
    clear hB
    go_upto_region 4 with fail
    refine wp_region_make0 12 (by kernel_rfl) (by kernel_rfl) (by kernel_rfl) ?_
    apply Exists.intro
    refine ⟨fun R hR hN => ?_, ?_⟩
    · have y1 := fun z => LaterR.read (R := R) HA.out 1 _ rfl z
      have A0 := fun z => (PX.out R z).1.1
      have A1 := fun z => (PX.out R z).1.2
      have B0 := fun z => (PX.out R z).2.1
      have B1 := fun z => (PX.out R z).2.2
      simp only [List.take_succ_cons, List.take_zero]
      repeat (go_big_quiet_step (first | (go_at_call 44; exact LaterR.calls hR (a_placed _ _))))
      exact wpQuiet_nil rfl
    · intro w3 hb3
      simp only [List.drop_succ_cons, List.drop_zero]
      obtain ⟨U, hU, k1, k2, bU⟩ := TL.out w3 hb3
      have c0 := (HR.out.below hb3 HR.out.lt).cell 0 _ rfl
      have c1 := (HR.out.below hb3 HR.out.lt).cell 1 _ rfl
      have d0 := (HC.out.below hb3 HC.out.lt).cell 0 _ rfl
      have d1 := (HC.out.below hb3 HC.out.lt).cell 1 _ rfl
      have f0 := has_fro (HR.out.below hb3 HR.out.lt)
      have f1 := has_fro (HC.out.below hb3 HC.out.lt)
      have u0 := k1.cell 0 _ rfl
      have u1 := k1.cell 1 _ rfl
      have u2 := k2.cell 0 _ rfl
      have u3 := k2.cell 1 _ rfl
      have BU := Lib.hid bU
      have HU := Lib.hid hU
      clear k1 k2 bU hU hb3
      go_wp2
      rw [HU.out]
      refine bodyPost_ret (v := .tuple #[.agg (pCells (plc p)), .agg (pCells (plc q))]) (by simp [results, Try.results35, go_sem, u0, u1, u2, u3]) rfl ⟨rfl, BU.out⟩
  · rw [nxt_in hl] at hj
    subst hj
    have ol : ¬ (i : Int) + 1 = N := by omega
    go_enter Try.func35, Try.ntmps35
    go_upto_region 1 with fail
    rw [HW.out]
    clear hB
    go_upto_region 4 with fail
    refine wp_region_make0 12 (by kernel_rfl) (by kernel_rfl) (by kernel_rfl) ?_
    apply Exists.intro
    refine ⟨fun R hR hN => ?_, ?_⟩
    · have y1 := fun z => LaterR.read (R := R) HA.out 1 _ rfl z
      have A0 := fun z => (PX.out R z).1.1
      have A1 := fun z => (PX.out R z).1.2
      have B0 := fun z => (PX.out R z).2.1
      have B1 := fun z => (PX.out R z).2.2
      simp only [List.take_succ_cons, List.take_zero]
      repeat (go_big_quiet_step (first | (go_at_call 44; exact LaterR.calls hR (a_placed _ _))))
      exact wpQuiet_nil rfl
    · intro w3 hb3
      simp only [List.drop_succ_cons, List.drop_zero]
      obtain ⟨U, hU, k1, k2, bU⟩ := TL.out w3 hb3
      have c0 := (HR.out.below hb3 HR.out.lt).cell 0 _ rfl
      have c1 := (HR.out.below hb3 HR.out.lt).cell 1 _ rfl
      have d0 := (HC.out.below hb3 HC.out.lt).cell 0 _ rfl
      have d1 := (HC.out.below hb3 HC.out.lt).cell 1 _ rfl
      have f0 := has_fro (HR.out.below hb3 HR.out.lt)
      have f1 := has_fro (HC.out.below hb3 HC.out.lt)
      have u0 := k1.cell 0 _ rfl
      have u1 := k1.cell 1 _ rfl
      have u2 := k2.cell 0 _ rfl
      have u3 := k2.cell 1 _ rfl
      have BU := Lib.hid bU
      have HU := Lib.hid hU
      clear k1 k2 bU hU hb3
      go_wp2
      rw [HU.out]
      refine bodyPost_ret (v := .tuple #[.agg (pCells (plc p)), .agg (pCells (plc q))]) (by simp [results, Try.results35, go_sem, u0, u1, u2, u3]) rfl ⟨rfl, BU.out⟩

set_option maxRecDepth 100000 in
set_option maxHeartbeats 2000000 in
theorem r9_side (c : Bool) {ao : Option Addr} {N cap i : Nat} {ps : List Pt} {w : World} (h : Psl w (.slice ao N cap) ps) (hN : ps.length = N) (hi : i < N) :
    Calls Try.prog 26 #[.agg #[.bool c, .slice ao N cap], .int .i64 (i : Int)] w fun r w' => r = .returned (.tuple #[.agg (pCells (sa ps i)), .agg (pCells (sb ps i))]) ∧ Below w.heap.size w w' := by
  have hf : N ≤ 8796093022208 := by have := h.few; omega
  obtain ⟨B, hB⟩ : ∃ B, w.heap.size = B := ⟨_, rfl⟩
  obtain ⟨W, hW⟩ : ∃ W, ((w.alloc (.cells #[.bool c, .slice ao N cap] 24)).alloc (.cells #[.int .i64 0, .int .i64 0] 31)).alloc (.cells #[.int .i64 0, .int .i64 0] 31) = W := ⟨_, rfl⟩
  have ha : Has W B #[.bool c, .slice ao N cap] 24 := by rw [← hW]; exact ((has_new hB).alloc _).alloc _
  have hr : Has W (B + 1) #[.int .i64 0, .int .i64 0] 31 := by rw [← hW]; exact (has_new (by simp [hB])).alloc _
  have hc : Has W (B + 1 + 1) #[.int .i64 0, .int .i64 0] 31 := by rw [← hW]; exact has_new (by simp [hB])
  have hbl : Below w.heap.size w W := by rw [← hW]; exact (((Below.refl _ _).alloc (by omega) _).alloc (by simp) _).alloc (by simp; omega) _
  have hs := h.below hbl (Nat.le_refl _)
  obtain ⟨g, o, e1, row⟩ : ∃ g o, ao = some ⟨g, o, none⟩ ∧ Prow W g o ps := by
    obtain ⟨ao', cap', hv, _, hr⟩ := hs
    simp at hv
    obtain ⟨rfl, _⟩ := hv
    exact hr (by omega)
  subst e1
  obtain ⟨j, hj⟩ : ∃ j, nxt N i = j := ⟨_, rfl⟩
  obtain ⟨p, hp⟩ : ∃ p, pt ps i = p := ⟨_, rfl⟩
  obtain ⟨q, hq⟩ : ∃ q, pt ps j = q := ⟨_, rfl⟩
  have ea : sa ps i = plc p := by unfold sa; rw [hp]
  have eb : sb ps i = plc q := by unfold sb; rw [hN, hj, hq]
  have hjl : j < N := by rw [← hj]; exact nxt_lt hi
  have hmod : Int.tmod ((i : Int) + 1) (N : Int) = (j : Int) := by rw [nxt_mod hi, hj]
  rw [ea, eb]
  have PX : Hid (∀ (R : World → Prop) (z : LaterR W R), (z.to.cell? ⟨g, o + i * 2, none⟩ = some (.int .i64 p.x) ∧ z.to.cell? ⟨g, o + i * 2 + 1, none⟩ = some (.int .i64 p.y)) ∧ (z.to.cell? ⟨g, o + j * 2, none⟩ = some (.int .i64 q.x) ∧ z.to.cell? ⟨g, o + j * 2 + 1, none⟩ = some (.int .i64 q.y))) := Lib.hid (fun R z => ⟨row.laterR (by omega) hp z, row.laterR (by omega) hq z⟩)
  have HA := Lib.hid ha
  have HR := Lib.hid hr
  have HC := Lib.hid hc
  have HBL := Lib.hid hbl
  have HW := Lib.hid hW
  have HB := Lib.hid hB
  clear ha hr hc hbl hs hW row ea eb hp hq h hN hj
  have tail : ∀ w3, Below W.heap.size W w3 → ∃ U, (((w3.setCell ⟨B + 1, 0, none⟩ (.int .i64 (plc p).x)).setCell ⟨B + 1, 1, none⟩ (.int .i64 (plc p).y)).setCell ⟨B + 1 + 1, 0, none⟩ (.int .i64 (plc q).x)).setCell ⟨B + 1 + 1, 1, none⟩ (.int .i64 (plc q).y) = U ∧ Has U (B + 1) (pCells (plc p)) 31 ∧ Has U (B + 1 + 1) (pCells (plc q)) 31 ∧ Below w.heap.size w U := fun w3 hb3 =>
    two_res (HR.out.below hb3 HR.out.lt) (HC.out.below hb3 HC.out.lt) (by omega) (HBL.out.trans (hb3.mono HBL.out.size)) (by have := HB.out; omega) (by have := HB.out; omega)
  have TL := Lib.hid tail
  clear tail
  have oi : (i : Int) < N := by omega
  have oj : (j : Int) < N := by omega
  have oN : ¬ (N : Int) = 0 := by omega
  go_enter Try.func26, Try.ntmps26
  go_upto_region 1 with fail
  rw [HW.out]
  clear hB
  refine wp_region_make0 17 (by kernel_rfl) (by kernel_rfl) (by kernel_rfl) ?_
  apply Exists.intro
  refine ⟨fun R hR hN => ?_, ?_⟩
  · have y1 := fun z => LaterR.read (R := R) HA.out 1 _ rfl z
    have A0 := fun z => (PX.out R z).1.1
    have A1 := fun z => (PX.out R z).1.2
    have B0 := fun z => (PX.out R z).2.1
    have B1 := fun z => (PX.out R z).2.2
    simp only [List.take_succ_cons, List.take_zero]
    repeat (go_big_quiet_step (first | (go_at_call 39; exact LaterR.calls hR (r9_placed _ _))))
    exact wpQuiet_nil rfl
  · intro w3 hb3
    simp only [List.drop_succ_cons, List.drop_zero]
    obtain ⟨U, hU, k1, k2, bU⟩ := TL.out w3 hb3
    have c0 := (HR.out.below hb3 HR.out.lt).cell 0 _ rfl
    have c1 := (HR.out.below hb3 HR.out.lt).cell 1 _ rfl
    have d0 := (HC.out.below hb3 HC.out.lt).cell 0 _ rfl
    have d1 := (HC.out.below hb3 HC.out.lt).cell 1 _ rfl
    have f0 := has_fro (HR.out.below hb3 HR.out.lt)
    have f1 := has_fro (HC.out.below hb3 HC.out.lt)
    have u0 := k1.cell 0 _ rfl
    have u1 := k1.cell 1 _ rfl
    have u2 := k2.cell 0 _ rfl
    have u3 := k2.cell 1 _ rfl
    have BU := Lib.hid bU
    have HU := Lib.hid hU
    clear k1 k2 bU hU hb3
    go_wp2
    rw [HU.out]
    refine bodyPost_ret (v := .tuple #[.agg (pCells (plc p)), .agg (pCells (plc q))]) (by simp [results, Try.results26, go_sem, u0, u1, u2, u3]) rfl ⟨rfl, BU.out⟩


theorem still {f : FuncId} {args : Array Value} {w : World} {v : Value} (h : Calls Try.prog f args w fun e w' => e = .returned v ∧ w = w') : Calls Try.prog f args w fun e w' => e = .returned v ∧ Below w.heap.size w w' :=
  h.mono fun _ _ ⟨he, hw⟩ => ⟨he, hw ▸ Below.refl _ _⟩
theorem drawnB {f : FuncId} {args : Array Value} {w : World} {v : Value} (h : Calls Try.prog f args w (Drawn v w)) : Calls Try.prog f args w fun e w' => e = .returned v ∧ Below w.heap.size w w' :=
  h.mono fun _ _ ⟨he, n, hw⟩ => ⟨he, hw ▸ below_drewN (Below.refl _ _) n⟩
theorem two_put9 {w w' : World} {k k2 : Nat} {t : TypeId} {p q : Pt} {x1 x2 x3 x4 : Value} (h : Has w' k #[x1, x2] t) (h2 : Has w' k2 #[x3, x4] t) (hne : k ≠ k2) (hb : Below w.heap.size w w') (hk : w.heap.size ≤ k) (hk2 : w.heap.size ≤ k2) :
    ∃ U, (((w'.setCell ⟨k, 0, none⟩ (.int .i64 p.x)).setCell ⟨k, 1, none⟩ (.int .i64 p.y)).setCell ⟨k2, 0, none⟩ (.int .i64 q.x)).setCell ⟨k2, 1, none⟩ (.int .i64 q.y) = U ∧ Has U k (pCells p) t ∧ Has U k2 (pCells q) t ∧ Below w.heap.size w U :=
  ⟨_, rfl, noff2 (nset2 h _ _) (Ne.symm hne) _ _, nset2 (noff2 h2 hne _ _) _ _, (((hb.setCell hk _).setCell hk _).setCell hk2 _).setCell hk2 _⟩

set_option maxRecDepth 100000 in
set_option maxHeartbeats 2000000 in
theorem a_on (a b : Pt) (d l : Int) (w : World) :
    Calls Try.prog 38 #[.agg (pCells a), .agg (pCells b), .int .i64 d, .int .i64 l] w fun r w' => r = .returned (.agg (pCells (onP a b d l))) ∧ Below w.heap.size w w' := by
  obtain ⟨B, hB⟩ : ∃ B, w.heap.size = B := ⟨_, rfl⟩
  obtain ⟨W, hW⟩ : ∃ W, ((w.alloc (.cells (pCells a) 31)).alloc (.cells (pCells b) 31)).alloc (.cells #[.int .i64 0, .int .i64 0] 31) = W := ⟨_, rfl⟩
  have ha : Has W B (pCells a) 31 := by rw [← hW]; exact ((has_new hB).alloc _).alloc _
  have hb : Has W (B + 1) (pCells b) 31 := by rw [← hW]; exact (has_new (by simp [hB])).alloc _
  have hr : Has W (B + 1 + 1) #[.int .i64 0, .int .i64 0] 31 := by rw [← hW]; exact has_new (by simp [hB])
  have hbl : Below w.heap.size w W := by rw [← hW]; exact (((Below.refl _ _).alloc (by omega) _).alloc (by simp) _).alloc (by simp; omega) _
  have HA := Lib.hid ha
  have HR := Lib.hid hr
  have HC := Lib.hid hb
  have HBL := Lib.hid hbl
  have HW := Lib.hid hW
  have HB := Lib.hid hB
  clear ha hr hb hbl hW
  have tail : ∀ w3, Below W.heap.size W w3 → ∃ U, (((w3.setCell ⟨B, 0, none⟩ (.int .i64 (plc a).x)).setCell ⟨B, 1, none⟩ (.int .i64 (plc a).y)).setCell ⟨B + 1, 0, none⟩ (.int .i64 (plc b).x)).setCell ⟨B + 1, 1, none⟩ (.int .i64 (plc b).y) = U ∧ Has U B (pCells (plc a)) 31 ∧ Has U (B + 1) (pCells (plc b)) 31 ∧ Below w.heap.size w U ∧ Has U (B + 1 + 1) #[.int .i64 0, .int .i64 0] 31 := fun w3 hb3 => by
    obtain ⟨U, hU, k1, k2, bU⟩ := two_put9 (p := plc a) (q := plc b) (HA.out.below hb3 HA.out.lt) (HC.out.below hb3 HC.out.lt) (by omega) (HBL.out.trans (hb3.mono HBL.out.size)) (by have := HB.out; omega) (by have := HB.out; omega)
    refine ⟨U, hU, k1, k2, bU, ?_⟩
    rw [← hU]
    exact noff2 (noff2 (HR.out.below hb3 HR.out.lt) (by omega) _ _) (by omega) _ _
  have TL := Lib.hid tail
  clear tail
  go_enter Try.func38, Try.ntmps38
  go_upto_region 1 with fail
  rw [HW.out]
  clear hB
  refine wp_region_make0 6 (by kernel_rfl) (by kernel_rfl) (by kernel_rfl) ?_
  apply Exists.intro
  refine ⟨fun R hR hN => ?_, ?_⟩
  · have A0 := fun z => LaterR.read (R := R) HA.out 0 _ rfl z
    have A1 := fun z => LaterR.read (R := R) HA.out 1 _ rfl z
    have B0 := fun z => LaterR.read (R := R) HC.out 0 _ rfl z
    have B1 := fun z => LaterR.read (R := R) HC.out 1 _ rfl z
    simp only [List.take_succ_cons, List.take_zero]
    repeat (go_big_quiet_step (first | (go_at_call 44; exact LaterR.calls hR (a_placed _ _)) | (go_at_call 37; exact LaterR.calls hR (still (q_hold _ _)))))
    exact wpQuiet_nil rfl
  · intro w3 hb3
    simp only [List.drop_succ_cons, List.drop_zero]
    obtain ⟨U, hU, k1, k2, bU, k3⟩ := TL.out w3 hb3
    have c0 := (HA.out.below hb3 HA.out.lt).cell 0 _ rfl
    have c1 := (HA.out.below hb3 HA.out.lt).cell 1 _ rfl
    have d0 := (HC.out.below hb3 HC.out.lt).cell 0 _ rfl
    have d1 := (HC.out.below hb3 HC.out.lt).cell 1 _ rfl
    have f0 := has_fro (HA.out.below hb3 HA.out.lt)
    have f1 := has_fro (HC.out.below hb3 HC.out.lt)
    have BU := Lib.hid bU
    have HU := Lib.hid hU
    have K1 := Lib.hid k1
    have K2 := Lib.hid k2
    have K3 := Lib.hid k3
    clear k1 k2 k3 bU hU hb3
    go_upto_region 2 with fail
    rw [HU.out]
    clear c0 c1 d0 d1 f0 f1
    have u0 := K1.out.cell 0 _ rfl
    have u1 := K1.out.cell 1 _ rfl
    have u2 := K2.out.cell 0 _ rfl
    have u3 := K2.out.cell 1 _ rfl
    have u4 := K3.out.cell 0 _ rfl
    have u5 := K3.out.cell 1 _ rfl
    have f2 := has_fro K3.out
    have ST : ∀ (r : Pt) {v : World}, Below U.heap.size U v → ∃ Z, (v.setCell ⟨B + 1 + 1, 0, none⟩ (.int .i64 r.x)).setCell ⟨B + 1 + 1, 1, none⟩ (.int .i64 r.y) = Z ∧ Has Z (B + 1 + 1) (pCells r) 31 ∧ Below w.heap.size w Z := fun r v hv =>
      ⟨_, rfl, nset2 (K3.out.below hv K3.out.lt) _ _, ((BU.out.trans (hv.mono BU.out.size)).setCell (show w.heap.size ≤ B + 1 + 1 by have := HB.out; omega) _).setCell (show w.heap.size ≤ B + 1 + 1 by have := HB.out; omega) _⟩
    have STH := Lib.hid ST
    clear ST
    by_cases h0 : hold d ≤ 0
    · have EO := Lib.hid (onP_a (a := a) (b := b) (l := l) h0)
      obtain ⟨Z, hZ, s1, s2⟩ := STH.out (plc a) (Below.refl _ _)
      have v0 := s1.cell 0 _ rfl
      have v1 := s1.cell 1 _ rfl
      have S2 := Lib.hid s2
      have HZ := Lib.hid hZ
      clear s1 s2 hZ
      go_wp2
      rw [HZ.out]
      refine bodyPost_ret (v := .agg (pCells (plc a))) (by simp [results, Try.results38, go_sem, v0, v1]) rfl ⟨by rw [EO.out]; try rfl, S2.out⟩
    · by_cases h1 : l ≤ hold d
      · have EO := Lib.hid (onP_b (a := a) (b := b) h0 h1)
        obtain ⟨Z, hZ, s1, s2⟩ := STH.out (plc b) (Below.refl _ _)
        have v0 := s1.cell 0 _ rfl
        have v1 := s1.cell 1 _ rfl
        have S2 := Lib.hid s2
        have HZ := Lib.hid hZ
        clear s1 s2 hZ
        go_wp2
        rw [HZ.out]
        refine bodyPost_ret (v := .agg (pCells (plc b))) (by simp [results, Try.results38, go_sem, v0, v1]) rfl ⟨by rw [EO.out]; try rfl, S2.out⟩
      · have EO := Lib.hid (onP_mid (a := a) (b := b) h0 h1)
        go_wp2_with fail
        refine (q_div _ _ _).mono ?_
        rintro e v ⟨rfl, n, hv⟩
        have bV : Below U.heap.size U v := by rw [hv]; exact below_drewN (Below.refl _ _) _
        clear hv
        have KK1 := Lib.hid (K1.out.below bV K1.out.lt)
        have KK2 := Lib.hid (K2.out.below bV K2.out.lt)
        have BV := Lib.hid bV
        clear bV u0 u1 u2 u3 u4 u5 f2
        go_upto_region 7 with fail
        refine wp_region_make0 13 (by kernel_rfl) (by kernel_rfl) (by kernel_rfl) ?_
        apply Exists.intro
        refine ⟨fun R hR hN => ?_, ?_⟩
        · have A0 := fun z => LaterR.read (R := R) KK1.out 0 _ rfl z
          have A1 := fun z => LaterR.read (R := R) KK1.out 1 _ rfl z
          have B0 := fun z => LaterR.read (R := R) KK2.out 0 _ rfl z
          have B1 := fun z => LaterR.read (R := R) KK2.out 1 _ rfl z
          simp only [List.take_succ_cons, List.take_zero]
          repeat (go_big_quiet_step (first | (go_at_call 48; exact LaterR.calls hR (still (q_mid _ _ _ _)))))
          exact wpQuiet_nil rfl
        · intro w5 hb5
          simp only [List.drop_succ_cons, List.drop_zero]
          have bX : Below U.heap.size U w5 := BV.out.trans (hb5.mono BV.out.size)
          have k3 := K3.out.below bX K3.out.lt
          obtain ⟨Z, hZ, s1, s2⟩ := STH.out ⟨mid (plc a).x (plc b).x (dv (hold d) l), mid (plc a).y (plc b).y (dv (hold d) l)⟩ bX
          simp only at hZ
          have v0 := s1.cell 0 _ rfl
          have v1 := s1.cell 1 _ rfl
          have x0 := k3.cell 0 _ rfl
          have x1 := k3.cell 1 _ rfl
          have f2 := has_fro k3
          have S2 := Lib.hid s2
          have HZ := Lib.hid hZ
          clear s1 s2 hZ k3 bX hb5
          go_wp2
          rw [HZ.out]
          refine bodyPost_ret (v := .agg #[.int .i64 (mid (plc a).x (plc b).x (dv (hold d) l)), .int .i64 (mid (plc a).y (plc b).y (dv (hold d) l))]) (by simp [results, Try.results38, go_sem, v0, v1]) rfl ⟨by rw [EO.out]; try rfl, S2.out⟩

set_option maxRecDepth 100000 in
set_option maxHeartbeats 2000000 in
theorem r9_on (a b : Pt) (d l : Int) (w : World) :
    Calls Try.prog 31 #[.agg (pCells a), .agg (pCells b), .int .i64 d, .int .i64 l] w fun r w' => r = .returned (.agg (pCells (onP a b d l))) ∧ Below w.heap.size w w' := by
  obtain ⟨B, hB⟩ : ∃ B, w.heap.size = B := ⟨_, rfl⟩
  obtain ⟨W, hW⟩ : ∃ W, ((w.alloc (.cells (pCells a) 31)).alloc (.cells (pCells b) 31)).alloc (.cells #[.int .i64 0, .int .i64 0] 31) = W := ⟨_, rfl⟩
  have ha : Has W B (pCells a) 31 := by rw [← hW]; exact ((has_new hB).alloc _).alloc _
  have hb : Has W (B + 1) (pCells b) 31 := by rw [← hW]; exact (has_new (by simp [hB])).alloc _
  have hr : Has W (B + 1 + 1) #[.int .i64 0, .int .i64 0] 31 := by rw [← hW]; exact has_new (by simp [hB])
  have hbl : Below w.heap.size w W := by rw [← hW]; exact (((Below.refl _ _).alloc (by omega) _).alloc (by simp) _).alloc (by simp; omega) _
  have HA := Lib.hid ha
  have HR := Lib.hid hr
  have HC := Lib.hid hb
  have HBL := Lib.hid hbl
  have HW := Lib.hid hW
  have HB := Lib.hid hB
  clear ha hr hb hbl hW
  have tail : ∀ w3, Below W.heap.size W w3 → ∃ U, (((w3.setCell ⟨B, 0, none⟩ (.int .i64 (plc a).x)).setCell ⟨B, 1, none⟩ (.int .i64 (plc a).y)).setCell ⟨B + 1, 0, none⟩ (.int .i64 (plc b).x)).setCell ⟨B + 1, 1, none⟩ (.int .i64 (plc b).y) = U ∧ Has U B (pCells (plc a)) 31 ∧ Has U (B + 1) (pCells (plc b)) 31 ∧ Below w.heap.size w U ∧ Has U (B + 1 + 1) #[.int .i64 0, .int .i64 0] 31 := fun w3 hb3 => by
    obtain ⟨U, hU, k1, k2, bU⟩ := two_put9 (p := plc a) (q := plc b) (HA.out.below hb3 HA.out.lt) (HC.out.below hb3 HC.out.lt) (by omega) (HBL.out.trans (hb3.mono HBL.out.size)) (by have := HB.out; omega) (by have := HB.out; omega)
    refine ⟨U, hU, k1, k2, bU, ?_⟩
    rw [← hU]
    exact noff2 (noff2 (HR.out.below hb3 HR.out.lt) (by omega) _ _) (by omega) _ _
  have TL := Lib.hid tail
  clear tail
  go_enter Try.func31, Try.ntmps31
  go_upto_region 1 with fail
  rw [HW.out]
  clear hB
  refine wp_region_make0 6 (by kernel_rfl) (by kernel_rfl) (by kernel_rfl) ?_
  apply Exists.intro
  refine ⟨fun R hR hN => ?_, ?_⟩
  · have A0 := fun z => LaterR.read (R := R) HA.out 0 _ rfl z
    have A1 := fun z => LaterR.read (R := R) HA.out 1 _ rfl z
    have B0 := fun z => LaterR.read (R := R) HC.out 0 _ rfl z
    have B1 := fun z => LaterR.read (R := R) HC.out 1 _ rfl z
    simp only [List.take_succ_cons, List.take_zero]
    repeat (go_big_quiet_step (first | (go_at_call 39; exact LaterR.calls hR (r9_placed _ _)) | (go_at_call 30; exact LaterR.calls hR (still (r_hold _ _)))))
    exact wpQuiet_nil rfl
  · intro w3 hb3
    simp only [List.drop_succ_cons, List.drop_zero]
    obtain ⟨U, hU, k1, k2, bU, k3⟩ := TL.out w3 hb3
    have c0 := (HA.out.below hb3 HA.out.lt).cell 0 _ rfl
    have c1 := (HA.out.below hb3 HA.out.lt).cell 1 _ rfl
    have d0 := (HC.out.below hb3 HC.out.lt).cell 0 _ rfl
    have d1 := (HC.out.below hb3 HC.out.lt).cell 1 _ rfl
    have f0 := has_fro (HA.out.below hb3 HA.out.lt)
    have f1 := has_fro (HC.out.below hb3 HC.out.lt)
    have BU := Lib.hid bU
    have HU := Lib.hid hU
    have K1 := Lib.hid k1
    have K2 := Lib.hid k2
    have K3 := Lib.hid k3
    clear k1 k2 k3 bU hU hb3
    go_upto_region 2 with fail
    rw [HU.out]
    clear c0 c1 d0 d1 f0 f1
    have u0 := K1.out.cell 0 _ rfl
    have u1 := K1.out.cell 1 _ rfl
    have u2 := K2.out.cell 0 _ rfl
    have u3 := K2.out.cell 1 _ rfl
    have u4 := K3.out.cell 0 _ rfl
    have u5 := K3.out.cell 1 _ rfl
    have f2 := has_fro K3.out
    have ST : ∀ (r : Pt) {v : World}, Below U.heap.size U v → ∃ Z, (v.setCell ⟨B + 1 + 1, 0, none⟩ (.int .i64 r.x)).setCell ⟨B + 1 + 1, 1, none⟩ (.int .i64 r.y) = Z ∧ Has Z (B + 1 + 1) (pCells r) 31 ∧ Below w.heap.size w Z := fun r v hv =>
      ⟨_, rfl, nset2 (K3.out.below hv K3.out.lt) _ _, ((BU.out.trans (hv.mono BU.out.size)).setCell (show w.heap.size ≤ B + 1 + 1 by have := HB.out; omega) _).setCell (show w.heap.size ≤ B + 1 + 1 by have := HB.out; omega) _⟩
    have STH := Lib.hid ST
    clear ST
    by_cases h0 : hold d ≤ 0
    · have EO := Lib.hid (onP_a (a := a) (b := b) (l := l) h0)
      obtain ⟨Z, hZ, s1, s2⟩ := STH.out (plc a) (Below.refl _ _)
      have v0 := s1.cell 0 _ rfl
      have v1 := s1.cell 1 _ rfl
      have S2 := Lib.hid s2
      have HZ := Lib.hid hZ
      clear s1 s2 hZ
      go_wp2
      rw [HZ.out]
      refine bodyPost_ret (v := .agg (pCells (plc a))) (by simp [results, Try.results31, go_sem, v0, v1]) rfl ⟨by rw [EO.out]; try rfl, S2.out⟩
    · by_cases h1 : l ≤ hold d
      · have EO := Lib.hid (onP_b (a := a) (b := b) h0 h1)
        obtain ⟨Z, hZ, s1, s2⟩ := STH.out (plc b) (Below.refl _ _)
        have v0 := s1.cell 0 _ rfl
        have v1 := s1.cell 1 _ rfl
        have S2 := Lib.hid s2
        have HZ := Lib.hid hZ
        clear s1 s2 hZ
        go_wp2
        rw [HZ.out]
        refine bodyPost_ret (v := .agg (pCells (plc b))) (by simp [results, Try.results31, go_sem, v0, v1]) rfl ⟨by rw [EO.out]; try rfl, S2.out⟩
      · have EO := Lib.hid (onP_mid (a := a) (b := b) h0 h1)
        go_wp2_with fail
        refine (r_div _ _ _).mono ?_
        rintro e v ⟨rfl, n, hv⟩
        have bV : Below U.heap.size U v := by rw [hv]; exact below_drewN (Below.refl _ _) _
        clear hv
        have KK1 := Lib.hid (K1.out.below bV K1.out.lt)
        have KK2 := Lib.hid (K2.out.below bV K2.out.lt)
        have BV := Lib.hid bV
        clear bV u0 u1 u2 u3 u4 u5 f2
        go_upto_region 7 with fail
        refine wp_region_make0 13 (by kernel_rfl) (by kernel_rfl) (by kernel_rfl) ?_
        apply Exists.intro
        refine ⟨fun R hR hN => ?_, ?_⟩
        · have A0 := fun z => LaterR.read (R := R) KK1.out 0 _ rfl z
          have A1 := fun z => LaterR.read (R := R) KK1.out 1 _ rfl z
          have B0 := fun z => LaterR.read (R := R) KK2.out 0 _ rfl z
          have B1 := fun z => LaterR.read (R := R) KK2.out 1 _ rfl z
          simp only [List.take_succ_cons, List.take_zero]
          repeat (go_big_quiet_step (first | (go_at_call 43; exact LaterR.calls hR (drawnB (r_mid _ _ _ _)))))
          exact wpQuiet_nil rfl
        · intro w5 hb5
          simp only [List.drop_succ_cons, List.drop_zero]
          have bX : Below U.heap.size U w5 := BV.out.trans (hb5.mono BV.out.size)
          have k3 := K3.out.below bX K3.out.lt
          obtain ⟨Z, hZ, s1, s2⟩ := STH.out ⟨mid (plc a).x (plc b).x (dv (hold d) l), mid (plc a).y (plc b).y (dv (hold d) l)⟩ bX
          simp only at hZ
          have v0 := s1.cell 0 _ rfl
          have v1 := s1.cell 1 _ rfl
          have x0 := k3.cell 0 _ rfl
          have x1 := k3.cell 1 _ rfl
          have f2 := has_fro k3
          have S2 := Lib.hid s2
          have HZ := Lib.hid hZ
          clear s1 s2 hZ k3 bX hb5
          go_wp2
          rw [HZ.out]
          refine bodyPost_ret (v := .agg #[.int .i64 (mid (plc a).x (plc b).x (dv (hold d) l)), .int .i64 (mid (plc a).y (plc b).y (dv (hold d) l))]) (by simp [results, Try.results31, go_sem, v0, v1]) rfl ⟨by rw [EO.out]; try rfl, S2.out⟩

end Go.Proofs.Ytgnmiilmmbblmaa
