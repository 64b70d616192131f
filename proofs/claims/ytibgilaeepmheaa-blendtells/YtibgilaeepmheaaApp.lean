/- append on a slice that the call itself made, for every program: as the library's law, and besides: the new value lies in the same block, or in a new one. Keys as cells: a row of keys that a call has made. -/
import Derived.Test.YtibgilaeepmheaaKA5
import Derived.OwnWalk
import Derived.ArgAppend
import Derived.Laws.OwnMore
namespace Go.Proofs.Ytibgilaeepmheaa
open Go Go.RowKit

section
variable {P : Program} (w : World)
/-- Behind an append: the same block, or a new one. -/
def Near (w : World) (v v' : Value) : Prop := v'.ownBlock = v.ownBlock ∨ ∃ k, v'.ownBlock = some k ∧ w.heap.size ≤ k
theorem near_new {e : TypeId} {size n : Nat} {v v' : Value} {w' : World} {xs : List Value} (hv : v.ownBlock = none ∨ n ≠ 0) (h : w'.ownsRow w.heap.size e size v' n xs) : Near w v v' := by
  rcases h.2 with ⟨rfl, h0⟩ | ⟨g, cap, cur, rfl, hb, _⟩
  · rcases hv with hv | hv
    · exact Or.inl hv.symm
    · exact absurd h0 hv
  · exact Or.inr ⟨g, rfl, hb⟩
theorem run_append_near (base : Nat) (t ty e : TypeId) (i : TypeInfo) (z : Value) (size bytes : Nat) (ht : P.underlying t = some (.slice e)) (hi : P.info? e = some i) (hz : i.zero = some z)
    (hsize : i.size = size) (hby : i.bytes = bytes) (hzs : z.cells.size = size) (hsz : 0 < size)
    (v : Value) (n : Nat) (xs : List Value) (hown : w.ownsRow base e size v n xs)
    (a : Addr) (m c : Nat) (news : List Value) (hl : news.length = m * size) (hnews : ∀ j u, news[j]? = some u → w.cell? (a.add j) = some u) (h1 : ∀ u ∈ news, u.oneCell' = true)
    (h63 : n + m ≤ maxLen) (hbytes : (n + m) * bytes ≤ 140737488355328) (hbase : base ≤ w.heap.size) :
    ∃ v' w', (Builtin.append_ #[t, t] ty #[v, .slice (some a) m c]).run P w = .ok v' w' ∧ w'.ownsRow base e size v' (n + m) (xs ++ news) ∧ w.grownBy w' v.ownBlock ∧ Near w v v' := by
  obtain ⟨v', w', hr, h2, h3, h4⟩ := run_append_own (P := P) w base t ty e i z size bytes ht hi hz hsize hby hzs hsz v n xs hown a m c news hl hnews h1 h63 hbytes hbase
  refine ⟨v', w', hr, h2, h3, ?_⟩
  rcases hown.2 with ⟨rfl, rfl⟩ | ⟨g, cap, cur, rfl, hbg, hg, hnc, hcm, hcs, htake⟩
  · have hx : xs = [] := List.eq_nil_of_length_eq_zero (by simpa using hown.1)
    subst hx
    obtain ⟨v2, w2, hr2, k2, _, _⟩ := run_append_own (P := P) w w.heap.size t ty e i z size bytes ht hi hz hsize hby hzs hsz (.slice none 0 0) 0 [] (World.ownsRow_nil _ _ _ _) a m c news hl hnews h1 h63 hbytes (Nat.le_refl _)
    rw [hr] at hr2
    injection hr2 with e1 e2
    subst e1; subst e2
    exact near_new w (Or.inl rfl) k2
  · by_cases hroom : n + m ≤ cap
    · subst hsize
      have hr2 := run_append_room (P := P) w t ty e i ht hi g n cap cur hg a m c news hl hnews h1 hroom (by rw [hl, hcs, ← Nat.add_mul]; exact Nat.mul_le_mul_right _ hroom)
      rw [hr] at hr2
      injection hr2 with e1 e2
      subst e1
      exact Or.inl rfl
    · have holds : ∀ j u, xs[j]? = some u → w.cell? ((⟨g, 0, none⟩ : Addr).add j) = some u := hown.cells (g := g) rfl
      obtain ⟨v2, w2, hr2, k2, _⟩ := run_append_arg_grows (P := P) w t ty e i z size bytes ht hi hz hsize hby hzs hsz ⟨g, 0, none⟩ n cap xs hown.1 holds a m c news hl hnews (by omega) h63 hbytes
      rw [hr] at hr2
      injection hr2 with e1 e2
      subst e1; subst e2
      exact near_new w (Or.inr (by omega)) k2
theorem wpList_append_near {ops : Array Oper} {rest : List Oper} {o : Oper} {a : Act} {Q : Exit → Act → World → Prop} (hgd : o.guard = none) (s x : Operand) (t : TypeId)
    (ho : o.op = .call { callee := .builtin .append, args := #[s, x], argTypes := #[t, t] })
    (base : Nat) (e : TypeId) (i : TypeInfo) (z : Value) (size bytes : Nat) (ht : P.underlying t = some (.slice e)) (hi : P.info? e = some i) (hz : i.zero = some z)
    (hsize : i.size = size) (hby : i.bytes = bytes) (hzs : z.cells.size = size) (hsz : 0 < size)
    (v : Value) (n : Nat) (xs : List Value) (hs : a.eval s = v) (hown : w.ownsRow base e size v n xs)
    (ad : Addr) (m c : Nat) (news : List Value) (hx : a.eval x = .slice (some ad) m c) (hl : news.length = m * size) (hnews : ∀ j u, news[j]? = some u → w.cell? (ad.add j) = some u) (h1 : ∀ u ∈ news, u.oneCell' = true)
    (h63 : n + m ≤ maxLen) (hbytes : (n + m) * bytes ≤ 140737488355328) (hbase : base ≤ w.heap.size)
    (h : ∀ v' w', w'.ownsRow base e size v' (n + m) (xs ++ news) → w.grownBy w' v.ownBlock → Near w v v' → wpList P ops Q rest (a.put o.dst v') w') : wpList P ops Q (o :: rest) a w := by
  refine wpList_plain hgd fun K hK => ?_
  obtain ⟨v', w', hr, h2, h3, h4⟩ := run_append_near (P := P) w base t o.type e i z size bytes ht hi hz hsize hby hzs hsz v n xs hown ad m c news hl hnews h1 h63 hbytes hbase
  unfold Oper.wp execOp
  simp only [ho, resolve, invoke, builtin, Sem.run_bind, Sem.run_pure, Result.andThen_ok, List.map_toArray, List.map_cons, List.map_nil, hs, hx, hr]
  exact hK _ _ (h v' w' h2 h3 h4)
end

open M
/-- A key's cells, as a list; a list of keys' cells. -/
def kl (k : Ky) : List Value := [.int .i64 k.t, .int .i64 k.v, .int .i64 k.h, .int .i64 k.a, .int .i64 k.b, .int .i64 k.c, .int .i64 k.d]
def kls (ks : List Ky) : List Value := ks.flatMap kl
theorem kls_cons (k : Ky) (ks : List Ky) : kls (k :: ks) = kl k ++ kls ks := by simp [kls]
theorem kls_snoc (ks : List Ky) (k : Ky) : kls (ks ++ [k]) = kls ks ++ kl k := by simp [kls]
theorem kls_length (ks : List Ky) : (kls ks).length = ks.length * 7 := by
  induction ks with
  | nil => rfl
  | cons k ks ih => rw [kls_cons, List.length_append, ih]; simp [kl]; omega
theorem ky_cons (k : Ky) (ks : List Ky) (i : Nat) : ky (k :: ks) (i + 1) = ky ks i := by simp [ky]
theorem ky_zero (k : Ky) (ks : List Ky) : ky (k :: ks) 0 = k := by simp [ky]
theorem kls_at {ks : List Ky} {i j : Nat} (hi : i < ks.length) (hj : j < 7) : (kls ks)[i * 7 + j]? = (kl (ky ks i))[j]? := by
  induction ks generalizing i with
  | nil => simp at hi
  | cons k ks ih =>
    rw [kls_cons]
    cases i with
    | zero => rw [ky_zero, Nat.zero_mul, Nat.zero_add, List.getElem?_append_left (by simpa [kl] using hj)]
    | succ i =>
      rw [ky_cons, List.getElem?_append_right (by simp [kl]; omega)]
      rw [← ih (by simpa using hi)]
      congr 1
      simp [kl]; omega
theorem ints_one_kl (k : Ky) : ∀ u ∈ kl k, u.oneCell' = true := by
  intro u hu
  simp [kl] at hu
  rcases hu with rfl | rfl | rfl | rfl | rfl | rfl | rfl <;> rfl
theorem row_of {w : World} {g o : Nat} {ks : List Ky} (hf : ks.length ≤ 8796093022208) (h : ∀ j u, (kls ks)[j]? = some u → w.cell? ⟨g, o + j, none⟩ = some u) : Row w g o ks := by
  have key : ∀ i j u, i < ks.length → j < 7 → (kl (ky ks i))[j]? = some u → w.cell? ⟨g, o + i * 7 + j, none⟩ = some u := by
    intro i j u hi hj hu
    rw [Nat.add_assoc]
    exact h _ _ ((kls_at hi hj).trans hu)
  exact ⟨hf, fun i hi => key i 0 _ hi (by omega) rfl, fun i hi => key i 1 _ hi (by omega) rfl, fun i hi => key i 2 _ hi (by omega) rfl, fun i hi => key i 3 _ hi (by omega) rfl, fun i hi => key i 4 _ hi (by omega) rfl, fun i hi => key i 5 _ hi (by omega) rfl, fun i hi => key i 6 _ hi (by omega) rfl⟩
theorem row_has {w : World} {g : Nat} {ks : List Ky} {cs : Array Value} {t : TypeId} (hf : ks.length ≤ 8796093022208) (h : Has w g cs t) (hc : cs.toList = kls ks) : Row w g 0 ks := by
  refine row_of hf fun j u hu => ?_
  rw [Nat.zero_add]
  refine h.cell j u ?_
  rw [← hc] at hu
  simpa using hu
end Go.Proofs.Ytibgilaeepmheaa
