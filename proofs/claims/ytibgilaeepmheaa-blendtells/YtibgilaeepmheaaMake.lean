/- A law on regions that draw their order, for every program: n quiet operations, m new variables ('alloc'), and a tail of operations each of which waits for all that stand ahead of it (calls, stores), but for operations 'sk' of the tail that yield one value in whatever world (a field's address) and are taken first: one walk in the text's order serves every order; the new variables lie in new blocks, each in one of its own. Conditions: Bools over the region, reckoned by the kernel. -/
import Derived.Test.YtibgilaeepmheaaTail
namespace Go.Proofs.Ytibgilaeepmheaa
open Go Go.RowKit

/-- What stays where only new blocks are laid. -/
def Stays (R : World → Prop) : Prop := ∀ w w' : World, R w → Below w.heap.size w w' → R w'
/-- Whatever world keeps what was in W, and of which R holds. -/
structure LaterR (W : World) (R : World → Prop) where
  to : World
  below : Below W.heap.size W to
  reg : R to
abbrev Cls (W : World) (R : World → Prop) : World → Prop := fun w' => ∃ z : LaterR W R, w' = z.to
theorem LaterR.calls {P : Program} {f : FuncId} {args : Array Value} {W : World} {R : World → Prop} (hR : Stays R) {z : LaterR W R} {v : Value} (h : Calls P f args z.to fun e w' => e = .returned v ∧ Below z.to.heap.size z.to w') :
    Calls P f args z.to fun e w'' => e = .returned v ∧ ∃ z' : LaterR W R, w'' = z'.to :=
  h.mono fun _ w' ⟨he, hb⟩ => ⟨he, ⟨w', z.below.trans (hb.mono z.below.size), hR _ _ z.reg hb⟩, rfl⟩
theorem LaterR.read {W : World} {R : World → Prop} {g : Nat} {cs : Array Value} {t : TypeId} (h : Has W g cs t) (k : Nat) (v : Value) (hv : cs[k]? = some v) (z : LaterR W R) : z.to.cell? ⟨g, k, none⟩ = some v :=
  (h.below z.below h.lt).cell k v hv

section
variable {P : Program}

def ptr (g : Nat) : Value := .pointer (some ⟨g, 0, none⟩)
/-- The frame with the new variables that are there. -/
def putG (D : Nat → Option Tmp) (G : Nat → Option Nat) : Nat → Act → Act
  | 0, a => a
  | m + 1, a => match G m with
    | some g => (putG D G m a).put (D m) (ptr g)
    | none => putG D G m a
def upd (G : Nat → Option Nat) (k g : Nat) : Nat → Option Nat := fun j => if j = k then some g else G j

theorem put_put (a : Act) (y : Option Tmp) (u v : Value) : (a.put y u).put y v = a.put y v := by
  cases y with
  | none => rfl
  | some d => simp [Act.put]
theorem putG_put {D : Nat → Option Tmp} {G : Nat → Option Nat} {y : Option Tmp} (u : Value) (a : Act) : ∀ m, (∀ k, k < m → ∀ d, D k = some d → y ≠ some d) → putG D G m (a.put y u) = (putG D G m a).put y u
  | 0, _ => rfl
  | m + 1, h => by
    have ih := putG_put (G := G) u a m (fun k hk => h k (by omega))
    unfold putG
    cases hg : G m with
    | none => exact ih
    | some g =>
      simp only
      rw [ih]
      exact (Act.put_comm _ _ _ (h m (by omega))).symm
theorem putG_out {D : Nat → Option Tmp} {G : Nat → Option Nat} {k g : Nat} (a : Act) : ∀ m, m ≤ k → putG D (upd G k g) m a = putG D G m a
  | 0, _ => rfl
  | m + 1, h => by
    have ih := putG_out (D := D) (G := G) (k := k) (g := g) a m (by omega)
    have e : upd G k g m = G m := by unfold upd; rw [if_neg (by omega)]
    unfold putG
    rw [e, ih]
theorem putG_upd {D : Nat → Option Tmp} {G : Nat → Option Nat} {k g : Nat} (a : Act) (hG : G k = none) : ∀ m, k < m → (∀ i j, i < m → j < m → i ≠ j → ∀ d, D i = some d → D j ≠ some d) → putG D (upd G k g) m a = (putG D G m a).put (D k) (ptr g)
  | 0, h, _ => by omega
  | m + 1, h, hD => by
    by_cases e : k = m
    · subst e
      unfold putG
      rw [putG_out a k (Nat.le_refl _), hG]
      simp [upd]
    · have ih := putG_upd (D := D) (g := g) a hG m (by omega) (fun i j hi hj => hD i j (by omega) (by omega))
      have e1 : upd G k g m = G m := by unfold upd; rw [if_neg (by omega)]
      unfold putG
      rw [e1, ih]
      cases hg : G m with
      | none => rfl
      | some g' => exact Act.put_comm _ _ _ (hD k m (by omega) (by omega) e)
theorem putG_none {D : Nat → Option Tmp} {G : Nat → Option Nat} {k : Nat} (u : Value) (a : Act) (hG : G k = none) : ∀ m, (∀ j, j < m → j ≠ k → ∀ d, D j = some d → D k ≠ some d) → putG D G m (a.put (D k) u) = (putG D G m a).put (D k) u
  | 0, _ => rfl
  | m + 1, h => by
    have ih := putG_none u a hG m (fun j hj => h j (by omega))
    unfold putG
    cases hg : G m with
    | none => exact ih
    | some g =>
      simp only
      rw [ih]
      exact (Act.put_comm _ _ _ (h m (by omega) (fun e => by rw [e, hG] at hg; cases hg))).symm
theorem putG_set {D : Nat → Option Tmp} {G : Nat → Option Nat} {k g : Nat} (u : Value) (a : Act) (hG : G k = some g) : ∀ m, k < m → (∀ i j, i < m → j < m → i ≠ j → ∀ d, D i = some d → D j ≠ some d) → putG D G m (a.put (D k) u) = putG D G m a
  | 0, h, _ => by omega
  | m + 1, h, hD => by
    by_cases e : k = m
    · subst e
      unfold putG
      rw [hG]
      simp only
      rw [putG_put u a k (fun j hj => hD j k (by omega) (by omega) (by omega)), put_put]
    · unfold putG
      rw [putG_set u a hG m (by omega) (fun i j hi hj => hD i j (by omega) (by omega))]
theorem exec_putG {ops : Array Oper} {D : Nat → Option Tmp} {G : Nat → Option Nat} (o : Oper) (hs : ∀ cs b, o.op ≠ .select cs b) (a : Act) : ∀ m, (∀ k, k < m → ∀ d, D k = some d → d ∉ o.looksAt ops) → execOp (putG D G m a).eval o = execOp a.eval o
  | 0, _ => rfl
  | m + 1, h => by
    have ih := exec_putG (G := G) o hs a m (fun k hk => h k (by omega))
    unfold putG
    cases hg : G m with
    | none => exact ih
    | some g =>
      simp only
      rw [execOp_put (ops := ops) o hs _ _ _ (h m (by omega)), ih]
theorem wanted_putG {ops : Array Oper} {D : Nat → Option Tmp} {G : Nat → Option Nat} (o : Oper) (a : Act) : ∀ m, (∀ k, k < m → ∀ d, D k = some d → d ∉ o.looksAt ops) → Region.wanted o (yielded ops (putG D G m a).tmps) = Region.wanted o (yielded ops a.tmps)
  | 0, _ => rfl
  | m + 1, h => by
    have ih := wanted_putG (G := G) o a m (fun k hk => h k (by omega))
    unfold putG
    cases hg : G m with
    | none => exact ih
    | some g =>
      simp only
      rw [wanted_put (ops := ops) o _ _ _ (h m (by omega)), ih]

/-- The new variables that are there: each in a block of its own, new. -/
structure Reg (obj : Nat → Obj) (m : Nat) (G : Nat → Option Nat) (B : Nat) (w : World) : Prop where
  has : ∀ k g, k < m → G k = some g → w.heap[g]? = some (obj k)
  lo : ∀ k g, k < m → G k = some g → B ≤ g
  ne : ∀ j k g, j < m → k < m → G j = some g → G k = some g → j = k
theorem Reg.stays (obj : Nat → Obj) (m : Nat) (G : Nat → Option Nat) (B : Nat) : Stays (Reg obj m G B) := fun w w' h hb =>
  ⟨fun k g hk hg => by have := h.has k g hk hg; rw [hb.block g (Array.getElem?_eq_some_iff.1 this).1]; exact this, h.lo, h.ne⟩
theorem Reg.add {obj : Nat → Obj} {m : Nat} {G : Nat → Option Nat} {B : Nat} {w : World} (h : Reg obj m G B w) {k : Nat} (hB : B ≤ w.heap.size) : Reg obj m (upd G k w.heap.size) B (w.alloc (obj k)) := by
  have hlt : ∀ j g, j < m → G j = some g → g < w.heap.size := fun j g hj hg => (Array.getElem?_eq_some_iff.1 (h.has j g hj hg)).1
  refine ⟨fun j g hj hg => ?_, fun j g hj hg => ?_, fun i j g hi hj h1 h2 => ?_⟩
  · unfold upd at hg
    by_cases e : j = k
    · rw [if_pos e] at hg; cases hg; subst e; exact (MapKept.heap_alloc w _).1
    · rw [if_neg e] at hg; rw [(MapKept.heap_alloc w _).2 g (hlt j g hj hg)]; exact h.has j g hj hg
  · unfold upd at hg
    by_cases e : j = k
    · rw [if_pos e] at hg; cases hg; exact hB
    · rw [if_neg e] at hg; exact h.lo j g hj hg
  · unfold upd at h1 h2
    by_cases e : i = k
    · by_cases e2 : j = k
      · omega
      · rw [if_pos e] at h1; rw [if_neg e2] at h2; cases h1; have := hlt j _ hj h2; omega
    · by_cases e2 : j = k
      · rw [if_neg e] at h1; rw [if_pos e2] at h2; cases h2; have := hlt i _ hi h1; omega
      · rw [if_neg e] at h1; rw [if_neg e2] at h2; exact h.ne i j g hi hj h1 h2

def bindsOn (o : Oper) (i : Nat) : Bool := o.after.any fun e => Region.binds .any e && e.on == i
/-- Each of the first i operations is waited for by one of 'acc', or by one that is waited for (or is one of 'sk'). -/
def coverGo (sk : List Nat) (L : List Oper) : Nat → List Oper → Bool
  | 0, _ => true
  | i + 1, acc => (sk.contains i || acc.any (fun o => bindsOn o i)) && (match L[i]? with | some o => coverGo sk L i (if sk.contains i then acc else o :: acc) | none => false)
/-- What has come up had all come up that it waits for. -/
def Closed (L : List Oper) (listed : Array Bool) : Prop := ∀ j o, L[j]? = some o → listed.getD j false = true → ∀ e ∈ o.after, Region.binds .any e = true → listed.getD e.on false = true
theorem cover {sk : List Nat} {L : List Oper} {listed : Array Bool} (hc : Closed L listed) (hsk : ∀ i, i ∈ sk → listed.getD i false = true) : ∀ i acc, coverGo sk L i acc = true → (∀ o ∈ acc, ∀ e ∈ o.after, Region.binds .any e = true → listed.getD e.on false = true) → ∀ k, k < i → listed.getD k false = true
  | 0, _, _, _, k, hk => by omega
  | i + 1, acc, h, ha, k, hk => by
    unfold coverGo at h
    rw [Bool.and_eq_true] at h
    obtain ⟨h1, h2⟩ := h
    have hi : listed.getD i false = true := by
      rcases Bool.or_eq_true _ _ ▸ h1 with h1 | h1
      · exact hsk i (by simpa using h1)
      · obtain ⟨o, ho, hb⟩ := List.any_eq_true.1 h1
        unfold bindsOn at hb
        obtain ⟨e, he, h5⟩ := Array.any_eq_true'.1 hb
        simp only [Bool.and_eq_true, beq_iff_eq] at h5
        have := ha o ho e he h5.1
        rw [h5.2] at this
        exact this
    cases hL : L[i]? with
    | none => rw [hL] at h2; cases h2
    | some o' =>
      rw [hL] at h2
      by_cases ek : k = i
      · rw [ek]; exact hi
      · refine cover hc hsk i _ h2 (fun x hx => ?_) k (by omega)
        split at hx
        · exact ha x hx
        · rcases List.mem_cons.1 hx with rfl | hx
          · exact hc i x hL hi
          · exact ha x hx
theorem getD_up {listed : Array Bool} {i j : Nat} (h : listed.getD j false = true) : (listed.setIfInBounds i true).getD j false = true := by
  by_cases e : i = j
  · subst e
    have hs : i < listed.size := by
      rcases Nat.lt_or_ge i listed.size with g | g
      · exact g
      · simp [Array.getElem?_eq_none g] at h
    simp [hs]
  · rw [getD_set_ne false e]; exact h
theorem Closed.set {L : List Oper} {listed : Array Bool} (hc : Closed L listed) {i : Nat} (hr : i ∈ Region.ready .any L.toArray listed) : Closed L (listed.setIfInBounds i true) := by
  obtain ⟨_, o, ho, hall⟩ := mem_ready.1 hr
  intro j o' hj hl e he hb
  by_cases h : i = j
  · subst h
    rw [show L.toArray[i]? = L[i]? by simp] at ho
    rw [hj] at ho
    cases ho
    exact getD_up (hall e he hb)
  · rw [getD_set_ne false h] at hl
    exact getD_up (hc j o' hj hl e he hb)
theorem ready_some {L : List Oper} {listed : Array Bool} (hsz : listed.size = L.length) (ho : ∀ i o, L[i]? = some o → ∀ e ∈ o.after, Region.binds .any e = true → e.on < i) :
    ∀ (n : Nat), n < L.length → listed.getD n true = false → Region.ready .any L.toArray listed ≠ [] := by
  intro n
  induction n using Nat.strongRecOn with
  | _ n ih =>
    intro hn hu
    by_cases hall : ∀ m, m < n → listed.getD m true = true
    · obtain ⟨o, hoe⟩ : ∃ o, L[n]? = some o := ⟨_, List.getElem?_eq_getElem hn⟩
      have hr : n ∈ Region.ready .any L.toArray listed := by
        refine mem_ready.2 ⟨hu, o, by simpa using hoe, fun e he hb => ?_⟩
        have hlt := ho n o hoe e he hb
        exact getD_of' (by omega) (hall _ hlt)
      intro h0
      rw [h0] at hr
      cases hr
    · have : ∃ m, m < n ∧ listed.getD m true = false := by
        apply Classical.byContradiction
        intro hno
        exact hall fun m hm => by
          cases hb : listed.getD m true
          · exact absurd ⟨m, hm, hb⟩ hno
          · rfl
      obtain ⟨m, hm, hu'⟩ := this
      exact ih m hm (by omega) hu'

/-- An operation with nothing to do and no slot. -/
def mute (s : Oper) : Oper := { s with op := .move (.const undef), dst := none }
/-- The region with its new variables and its tail idle. -/
def lame (n m : Nat) (L : List Oper) : List Oper := L.take n ++ (((L.drop n).take m).map idle ++ (L.drop (n + m)).map mute)
section
variable {n m : Nat} {L : List Oper}
theorem lame_lt {i : Nat} (h : i < n) : (lame n m L)[i]? = L[i]? := by
  unfold lame
  rcases Nat.lt_or_ge i L.length with g | g
  · rw [List.getElem?_append_left (by simp; omega), List.getElem?_take, if_pos h]
  · rw [List.getElem?_eq_none (by simp; omega), List.getElem?_eq_none g]
theorem lame_mid {i : Nat} (hn : n + m ≤ L.length) (h : n ≤ i) (h2 : i < n + m) : (lame n m L)[i]? = (L[i]?).map idle := by
  unfold lame
  rw [List.getElem?_append_right (by simp; omega), List.getElem?_append_left (by simp; omega), List.getElem?_map, List.getElem?_take, if_pos (by simp; omega), List.getElem?_drop]
  congr 2
  simp; omega
theorem lame_ge {i : Nat} (hn : n + m ≤ L.length) (h : n + m ≤ i) : (lame n m L)[i]? = (L[i]?).map mute := by
  unfold lame
  rw [List.getElem?_append_right (by simp; omega), List.getElem?_append_right (by simp; omega), List.getElem?_map, List.getElem?_drop]
  congr 2
  simp; omega
theorem lame_all {β : Type} (hn : n + m ≤ L.length) (f : Oper → β) (hf : ∀ o, f (idle o) = f o) (hg : ∀ o, f (mute o) = f o) (i : Nat) : ((lame n m L)[i]?).map f = (L[i]?).map f := by
  rcases Nat.lt_or_ge i n with h | h
  · rw [lame_lt h]
  · rcases Nat.lt_or_ge i (n + m) with h2 | h2
    · rw [lame_mid hn h h2]
      cases L[i]? with
      | none => rfl
      | some o => simp [hf]
    · rw [lame_ge hn h2]
      cases L[i]? with
      | none => rfl
      | some o => simp [hg]
theorem lame_dst (hn : n + m ≤ L.length) {i : Nat} (hi : i < n + m) : ((lame n m L)[i]?).map (·.dst) = (L[i]?).map (·.dst) := by
  rcases Nat.lt_or_ge i n with h | h
  · rw [lame_lt h]
  · rw [lame_mid hn h hi]
    cases L[i]? with
    | none => rfl
    | some o => rfl
theorem lame_wanted (hn : n + m ≤ L.length) (o : Oper) (hg : ∀ g b, o.guard = some (g, b) → g < n + m) (t : Array Value) : Region.wanted o (yielded (lame n m L).toArray t) = Region.wanted o (yielded L.toArray t) := by
  unfold Region.wanted
  cases h : o.guard with
  | none => rfl
  | some gb =>
    obtain ⟨g, b⟩ := gb
    have hl := lame_dst hn (hg g b h)
    simp only
    congr 1
    unfold yielded
    simp only [List.getElem?_toArray]
    cases h1 : (lame n m L)[g]? <;> cases h2 : L[g]? <;> simp [h1, h2] at hl ⊢
    rw [hl]
theorem lame_size (hn : n + m ≤ L.length) : (lame n m L).length = L.length := by
  unfold lame
  simp; omega
theorem lame_ready (hn : n + m ≤ L.length) (listed : Array Bool) : Region.ready .any (lame n m L).toArray listed = Region.ready .any L.toArray listed := by
  unfold Region.ready
  have hs : (lame n m L).toArray.size = L.toArray.size := by simp [lame_size hn]
  rw [hs]
  congr 1
  funext i
  have h := lame_all hn (·.after) (fun _ => rfl) (fun _ => rfl) i
  simp only [List.getElem?_toArray]
  cases h1 : (lame n m L)[i]? <;> cases h2 : L[i]? <;> simp [h1, h2] at h ⊢
  rw [h]
end
section
variable {C : World → Prop} {e : Act}
theorem keeps {ops : Array Oper} {d : Tmp} : ∀ (fuel : Nat) (listed : Array Bool) (x : Act), (∀ j o, ops[j]? = some o → listed.getD j true = false → o.dst ≠ some d) → wpAnyQ P .any ops C (fun x => x = e) fuel listed x → x.tmps[d]? = e.tmps[d]?
  | 0, _, x, _, h => by rw [show x = e from h.2]
  | fuel + 1, listed, x, hd, h => by
    cases hr : Region.ready .any ops listed with
    | nil => rw [show x = e from h.1 hr]
    | cons i r =>
      have hi : i ∈ Region.ready .any ops listed := by rw [hr]; exact List.mem_cons_self
      obtain ⟨hu, o, ho, _⟩ := mem_ready.1 hi
      have hne := hd i o ho hu
      have on : ∀ v, wpAnyQ P .any ops C (fun x => x = e) fuel (listed.setIfInBounds i true) (x.put o.dst v) → x.tmps[d]? = e.tmps[d]? := fun v hv => by
        have := keeps fuel _ _ (fun j o' hj hl => hd j o' hj (by
          by_cases ij : i = j
          · rw [← ij]; exact hu
          · rw [getD_set_ne true ij] at hl; exact hl)) hv
        rw [← this]
        cases hdst : o.dst with
        | none => rfl
        | some d' =>
          rw [hdst] at hne
          have : d' ≠ d := fun e => hne (by rw [e])
          simp [Act.put, this]
      have hq := h.2 i hi
      unfold qOp at hq
      rw [ho] at hq
      simp only at hq
      split at hq
      · obtain ⟨v, _, hk⟩ := hq; exact on v hk
      · exact on _ hq
theorem fins {ops : Array Oper} : ∀ (fuel : Nat) (listed : Array Bool) (x : Act), (∀ j o, ops[j]? = some o → listed.getD j true = false → o.dst = none) → wpAnyQ P .any ops C (fun x => x = e) fuel listed x → x = e
  | 0, _, x, _, h => h.2
  | fuel + 1, listed, x, hd, h => by
    cases hr : Region.ready .any ops listed with
    | nil => exact h.1 hr
    | cons i r =>
      have hi : i ∈ Region.ready .any ops listed := by rw [hr]; exact List.mem_cons_self
      obtain ⟨hu, o, ho, _⟩ := mem_ready.1 hi
      have hn := hd i o ho hu
      have on : ∀ v, wpAnyQ P .any ops C (fun x => x = e) fuel (listed.setIfInBounds i true) (x.put o.dst v) → x = e := fun v hv => by
        have := fins fuel _ _ (fun j o' hj hl => hd j o' hj (by
          by_cases ij : i = j
          · rw [← ij]; exact hu
          · rw [getD_set_ne true ij] at hl; exact hl)) hv
        rw [hn] at this
        exact this
      have hq := h.2 i hi
      unfold qOp at hq
      rw [ho] at hq
      simp only at hq
      split at hq
      · obtain ⟨v, _, hk⟩ := hq; exact on v hk
      · exact on _ hq
end
theorem put_eq {x : Act} {y : Option Tmp} {v v' : Value} (h : ∀ d, y = some d → (x.put y v).tmps[d]? = (x.put y v').tmps[d]?) : x.put y v = x.put y v' := by
  cases y with
  | none => rfl
  | some d =>
    have := h d rfl
    rcases Nat.lt_or_ge d x.tmps.size with g | g
    · simp [Act.put, g] at this
      rw [this]
    · simp [Act.put, Array.setIfInBounds, Nat.not_lt.2 g]


/-- The facts on a region's form. -/
structure MForm (P : Program) (n m : Nat) (sk : List Nat) (L : List Oper) (obj : Nat → Obj) (D : Nat → Option Tmp) : Prop where
  len : n + m < L.length
  last : L.length - 1 ∉ sk
  low : ∀ i, i ∈ sk → n + m ≤ i
  order : ∀ i o, L[i]? = some o → ∀ e ∈ o.after, Region.binds .any e = true → e.on < i
  tail : ∀ i o, n + m ≤ i → i ∉ sk → L[i]? = some o → coverGo sk L i [o] = true
  makes : ∀ k, k < m → ∃ o, L[n + k]? = some o ∧ o.guard = none ∧ o.dst = D k ∧ ∀ (x : Operand → Value) (w : World), (execOp x o).run P w = .ok (.value (ptr w.heap.size)) (w.alloc (obj k))
  apart : ∀ i o, i < n → L[i]? = some o → ∀ k, k < m → ∀ d, D k = some d → d ∉ o.looksAt L.toArray ∧ o.dst ≠ some d
  guards : ∀ i o, i < n → L[i]? = some o → ∀ g b, o.guard = some (g, b) → g < n + m
  differ : ∀ (i j : Nat) (o o' : Oper), i < j → j < n + m → L[i]? = some o → L[j]? = some o' → ∀ d, o.dst = some d → o'.dst ≠ some d
  sel : ∀ i o cs b, i < n → L[i]? = some o → o.op ≠ .select cs b
section
variable {n m : Nat} {sk : List Nat} {L : List Oper} {obj : Nat → Obj} {D : Nat → Option Tmp}
theorem MForm.le (F : MForm P n m sk L obj D) : n + m ≤ L.length := by have := F.len; omega
theorem MForm.diff (F : MForm P n m sk L obj D) : ∀ i j, i < m → j < m → i ≠ j → ∀ d, D i = some d → D j ≠ some d := by
  intro i j hi hj hne d hd hd'
  obtain ⟨o, ho, _, h1, _⟩ := F.makes i hi
  obtain ⟨o', ho', _, h2, _⟩ := F.makes j hj
  rcases Nat.lt_or_gt_of_ne hne with h | h
  · exact F.differ (n + i) (n + j) o o' (by omega) (by omega) ho ho' d (by rw [h1, hd]) (by rw [h2, hd'])
  · exact F.differ (n + j) (n + i) o' o (by omega) (by omega) ho' ho d (by rw [h2, hd']) (by rw [h1, hd])
end

theorem getD_set_eq {listed : Array Bool} {i : Nat} (h : i < listed.size) (b : Bool) : (listed.setIfInBounds i true).getD i b = true := by simp [h]
theorem not_listed {listed : Array Bool} {i : Nat} (h : listed.getD i true = false) : listed.getD i false = false := by
  rcases Nat.lt_or_ge i listed.size with g | g
  · simp [g] at h ⊢; exact h
  · simp [Array.getElem?_eq_none g] at h

/-- The tail from operation p on, without those that were taken first. -/
def tailOf (sk : List Nat) : List Oper → Nat → List Oper
  | [], _ => []
  | o :: r, p => if sk.contains p then tailOf sk r (p + 1) else o :: tailOf sk r (p + 1)
theorem tailOf_none : ∀ (r : List Oper) (p : Nat), tailOf [] r p = r
  | [], _ => rfl
  | o :: r, p => by unfold tailOf; rw [tailOf_none r (p + 1)]; rfl
theorem skip_to (sk : List Nat) (L : List Oper) : ∀ (d p : Nat), L.length - p = d → p ≤ L.length → ∃ p', p ≤ p' ∧ p' ≤ L.length ∧ (∀ i, p ≤ i → i < p' → i ∈ sk) ∧ (p' = L.length ∨ p' ∉ sk) ∧ tailOf sk (L.drop p) p = tailOf sk (L.drop p') p'
  | 0, p, hd, hp => ⟨p, Nat.le_refl _, hp, fun i h1 h2 => by omega, Or.inl (by omega), rfl⟩
  | d + 1, p, hd, hp => by
    by_cases h : p ∈ sk
    · obtain ⟨p', h1, h2, h3, h4, h5⟩ := skip_to sk L d (p + 1) (by omega) (by omega)
      refine ⟨p', by omega, h2, fun i hi hi2 => ?_, h4, ?_⟩
      · by_cases e : i = p
        · rw [e]; exact h
        · exact h3 i (by omega) hi2
      · rw [← h5, List.drop_eq_getElem_cons (by omega)]
        unfold tailOf
        rw [if_pos (by simpa using h)]
        cases hh : L.drop (p + 1) <;> rfl
    · exact ⟨p, Nat.le_refl _, hp, fun i h1 h2 => by omega, Or.inr h, rfl⟩

section
variable {n m : Nat} {sk : List Nat} {L : List Oper} {obj : Nat → Obj} {D : Nat → Option Tmp}
/-- The tail, one operation behind the other. -/
theorem any_of_tail (F : MForm P n m sk L obj D) {C : World → Prop} {Q0 : Act → Prop} {Q : Exit → Act → World → Prop} :
    ∀ (fuel : Nat) (p0 : Nat) (listed : Array Bool) (a0 x : Act) (w : World), n + m ≤ p0 → p0 ≤ L.length → listed.size = L.length → Closed L listed → (∀ i, i ∈ sk → listed.getD i false = true) → (∀ i, i < p0 → listed.getD i true = true) → (∀ i, p0 ≤ i → i < L.length → i ∉ sk → listed.getD i true = false) →
      wpAnyQ P .any (lame n m L).toArray C Q0 fuel listed a0 → wpList P L.toArray Q (tailOf sk (L.drop p0) p0) x w → wpAny P .any L.toArray Q fuel listed x w := by
  intro fuel
  induction fuel with
  | zero =>
    intro p0 listed a0 x w hp hpl hsz hc hsk hl hu h hw
    obtain ⟨p, q1, q2, q3, q4, q5⟩ := skip_to sk L _ p0 rfl hpl
    have h0 := h.1
    rw [lame_ready F.le] at h0
    rw [q5] at hw
    by_cases e : p = L.length
    · subst e
      rw [List.drop_length] at hw
      exact wpAny_done h0 0 x w hw
    · have hns : p ∉ sk := q4.resolve_left e
      exact absurd h0 (ready_some hsz F.order p (by omega) (hu p (by omega) (by omega) hns))
  | succ fuel ih =>
    intro p0 listed a0 x w hp hpl hsz hc hsk hl0 hu0 h hw
    obtain ⟨p, q1, q2, q3, q4, q5⟩ := skip_to sk L _ p0 rfl hpl
    rw [q5] at hw
    have hl : ∀ i, i < p → listed.getD i true = true := fun i hi => by
      rcases Nat.lt_or_ge i p0 with g | g
      · exact hl0 i g
      · exact getD_of (hsk i (q3 i g hi))
    have hu : ∀ i, p ≤ i → i < L.length → i ∉ sk → listed.getD i true = false := fun i h1 h2 h3 => hu0 i (by omega) h2 h3
    by_cases e : p = L.length
    · subst e
      rw [List.drop_length] at hw
      have h0 : Region.ready .any L.toArray listed = [] := by
        apply List.eq_nil_iff_forall_not_mem.2
        intro j hj
        obtain ⟨hju, oj, hoj, _⟩ := mem_ready.1 hj
        have hlt : j < L.length := by have := (Array.getElem?_eq_some_iff.1 hoj).1; simpa using this
        rw [hl j hlt] at hju
        cases hju
      exact wpAny_done h0 _ x w hw
    · have hns : p ∉ sk := q4.resolve_left e
      refine ⟨fun h0 => absurd h0 (ready_some hsz F.order p (by omega) (hu p (Nat.le_refl _) (by omega) hns)), fun i hi => ?_⟩
      obtain ⟨hiu, o, ho, hall⟩ := mem_ready.1 hi
      have ho' : L[i]? = some o := by simpa using ho
      have hisk : i ∉ sk := fun hm => by have := getD_of (hsk i hm); rw [hiu] at this; cases this
      have hge : p ≤ i := by
        rcases Nat.lt_or_ge i p with g | g
        · rw [hl i g] at hiu; cases hiu
        · exact g
      have hcv := cover hc hsk i [o] (F.tail i o (by omega) hisk ho') (fun x hx => by rw [List.mem_singleton.1 hx]; exact hall)
      have hip : i = p := by
        rcases Nat.lt_or_ge p i with g | g
        · have := hcv p g
          rw [not_listed (hu p (Nat.le_refl _) (by omega) hns)] at this
          cases this
        · omega
      subst hip
      have hd : tailOf sk (L.drop i) i = o :: tailOf sk (L.drop (i + 1)) (i + 1) := by
        rw [List.drop_eq_getElem_cons (by omega)]
        have e1 : L[i] = o := (List.getElem?_eq_some_iff.1 ho').2
        rw [e1]
        show (if sk.contains i then tailOf sk (L.drop (i + 1)) (i + 1) else o :: tailOf sk (L.drop (i + 1)) (i + 1)) = _
        rw [if_neg (by simpa using hns)]
      rw [hd] at hw
      have hq := h.2 i (by rw [lame_ready F.le]; exact hi)
      have hi' : (lame n m L).toArray[i]? = some (mute o) := by simp only [List.getElem?_toArray]; rw [lame_ge F.le (by omega), ho']; rfl
      have hK : wpAnyQ P .any (lame n m L).toArray C Q0 fuel (listed.setIfInBounds i true) a0 := by
        unfold qOp at hq
        rw [hi'] at hq
        have e : ∀ v, a0.put (mute o).dst v = a0 := fun v => rfl
        simp only at hq
        split at hq
        · obtain ⟨v, _, hk⟩ := hq; rw [e] at hk; exact hk
        · rw [e] at hq; exact hq
      have on : ∀ x' w', wpList P L.toArray Q (tailOf sk (L.drop (i + 1)) (i + 1)) x' w' → wpAny P .any L.toArray Q fuel (listed.setIfInBounds i true) x' w' := fun x' w' hx =>
        ih (i + 1) _ a0 x' w' (by omega) (by omega) (by simpa using hsz) (hc.set hi) (fun j hj => getD_up (hsk j hj)) (fun j hj => by
          by_cases ej : i = j
          · subst ej; exact getD_set_eq (by omega) _
          · rw [getD_set_ne true ej]; exact hl j (by omega)) (fun j hj hj2 hj3 => by rw [getD_set_ne true (by omega)]; exact hu j (by omega) hj2 hj3) hK hx
      unfold wpOp
      rw [ho]
      have hw' : if Region.wanted o (yielded L.toArray x.tmps) then o.wp P x w (wpList P L.toArray Q (tailOf sk (L.drop (i + 1)) (i + 1))) Q ∨ (o.asks P x w ∧ LetsOut Q) else wpList P L.toArray Q (tailOf sk (L.drop (i + 1)) (i + 1)) (x.put o.dst undef) w := hw
      simp only
      split
      · rename_i hwn; rw [if_pos hwn] at hw'
        exact hw'.imp (Oper.wp_mono fun a' w' h' => on a' w' h') id
      · rename_i hwn; rw [if_neg hwn] at hw'
        exact on _ _ hw'

theorem any_of_make (F : MForm P n m sk L obj D) {W : World} {e : Act} {Q : Exit → Act → World → Prop}
    (hfin : ∀ (G : Nat → Option Nat) (w : World), Below W.heap.size W w → Reg obj m G W.heap.size w → (∀ k, k < m → ∃ g, G k = some g) → wpList P L.toArray Q (tailOf sk (L.drop (n + m)) (n + m)) (putG D G m e) w) :
    ∀ (fuel : Nat) (listed : Array Bool) (a0 : Act) (G : Nat → Option Nat) (w : World), listed.size = L.length → Closed L listed → (∀ i, i ∈ sk → listed.getD i false = true) →
      (∀ R, Stays R → Nonempty (LaterR W R) → wpAnyQ P .any (lame n m L).toArray (Cls W R) (fun x => x = e) fuel listed a0) → Below W.heap.size W w → Reg obj m G W.heap.size w →
      (∀ k, k < m → (G k = none ↔ listed.getD (n + k) true = false)) → (∀ i, n + m ≤ i → i < L.length → i ∉ sk → listed.getD i true = false) → wpAny P .any L.toArray Q fuel listed (putG D G m a0) w := by
  have hlen := F.len
  intro fuel
  induction fuel with
  | zero =>
    intro listed a0 G w hsz hc hsk H hb hG hGl hu
    have h0 := (H _ (Reg.stays obj m G W.heap.size) ⟨⟨w, hb, hG⟩⟩).1
    rw [lame_ready F.le] at h0
    exact absurd h0 (ready_some hsz F.order (L.length - 1) (by omega) (hu _ (by omega) (by omega) F.last))
  | succ fuel ih =>
    intro listed a0 G w hsz hc hsk H hb hG hGl hu
    have HR := H _ (Reg.stays obj m G W.heap.size) ⟨⟨w, hb, hG⟩⟩
    by_cases htl : ∀ i, i < n + m → listed.getD i true = true
    · -- all that stands ahead of the tail has come up
      have ea : a0 = e := by
        refine fins (fuel + 1) listed a0 (fun j o hj hl => ?_) HR
        have hjm : n + m ≤ j := by
          rcases Nat.lt_or_ge j (n + m) with g | g
          · rw [htl j g] at hl; cases hl
          · exact g
        simp only [List.getElem?_toArray] at hj
        rw [lame_ge F.le hjm] at hj
        cases hL : L[j]? with
        | none => rw [hL] at hj; cases hj
        | some o' =>
          rw [hL] at hj
          cases hj
          rfl
      subst ea
      refine any_of_tail F (fuel + 1) (n + m) listed a0 _ w (Nat.le_refl _) (by omega) hsz hc hsk htl hu HR (hfin G w hb hG fun k hk => ?_)
      cases hg : G k with
      | none => have := (hGl k hk).1 hg; rw [htl _ (by omega)] at this; cases this
      | some g => exact ⟨g, rfl⟩
    · refine ⟨fun h0 => absurd h0 (ready_some hsz F.order (L.length - 1) (by omega) (hu _ (by omega) (by omega) F.last)), fun i hi => ?_⟩
      obtain ⟨hiu, o, ho, hall⟩ := mem_ready.1 hi
      have ho' : L[i]? = some o := by simpa using ho
      have hil : i < L.length := (List.getElem?_eq_some_iff.1 ho').1
      have hq := HR.2 i (by rw [lame_ready F.le]; exact hi)
      have hu' : ∀ j, n + m ≤ j → j < L.length → j ∉ sk → i < n + m → (listed.setIfInBounds i true).getD j true = false := fun j h1 h2 h4 h3 => by rw [getD_set_ne true (by omega)]; exact hu j h1 h2 h4
      have hisk : i ∉ sk := fun hm => by have := getD_of (hsk i hm); rw [hiu] at this; cases this
      have keep : i < n + m → ∀ j o', (lame n m L).toArray[j]? = some o' → (listed.setIfInBounds i true).getD j true = false → ∀ d, o.dst = some d → o'.dst ≠ some d := fun him j o' hj hl d hd => by
        have hji : j ≠ i := fun ej => by subst ej; rw [getD_set_eq (by omega)] at hl; cases hl
        simp only [List.getElem?_toArray] at hj
        rcases Nat.lt_or_ge j (n + m) with hjm | hjm
        · have hdst := lame_dst F.le hjm
          rw [hj] at hdst
          cases hL : L[j]? with
          | none => rw [hL] at hdst; cases hdst
          | some o2 =>
            rw [hL] at hdst
            simp only [Option.map_some, Option.some.injEq] at hdst
            rw [hdst]
            rcases Nat.lt_or_gt_of_ne hji with g | g
            · intro h2; exact F.differ j i o2 o g him hL ho' d h2 hd
            · exact F.differ i j o o2 g hjm ho' hL d hd
        · rw [lame_ge F.le hjm] at hj
          cases hL : L[j]? with
          | none => rw [hL] at hj; cases hj
          | some o2 =>
            rw [hL] at hj
            cases hj
            intro h2; cases h2
      have same : i < n + m → ∀ v, wpAnyQ P .any (lame n m L).toArray (Cls W (Reg obj m G W.heap.size)) (fun x => x = e) fuel (listed.setIfInBounds i true) (a0.put o.dst v) →
          ∀ R, Stays R → Nonempty (LaterR W R) → wpAnyQ P .any (lame n m L).toArray (Cls W R) (fun x => x = e) fuel (listed.setIfInBounds i true) (a0.put o.dst v) := fun him v hv R hR hN => by
        have hq2 := (H R hR hN).2 i (by rw [lame_ready F.le]; exact hi)
        have go : ∀ u, wpAnyQ P .any (lame n m L).toArray (Cls W R) (fun x => x = e) fuel (listed.setIfInBounds i true) (a0.put o.dst u) → wpAnyQ P .any (lame n m L).toArray (Cls W R) (fun x => x = e) fuel (listed.setIfInBounds i true) (a0.put o.dst v) := fun u hk => by
          have e1 : a0.put o.dst u = a0.put o.dst v := put_eq fun d hd => by
            rw [keeps fuel _ _ (fun j o' hj hl => keep him j o' hj hl d hd) hk, keeps fuel _ _ (fun j o' hj hl => keep him j o' hj hl d hd) hv]
          rw [← e1]
          exact hk
        have hdst := lame_dst F.le him
        unfold qOp at hq2
        cases hi0 : (lame n m L)[i]? with
        | none => rw [hi0, ho'] at hdst; cases hdst
        | some o2 =>
          rw [hi0, ho'] at hdst
          simp only [Option.map_some, Option.some.injEq] at hdst
          rw [show (lame n m L).toArray[i]? = some o2 by simpa using hi0] at hq2
          simp only at hq2
          rw [hdst] at hq2
          split at hq2
          · obtain ⟨u, _, hk⟩ := hq2; rw [hdst] at hk; exact go u hk
          · exact go _ hq2
      rcases Nat.lt_or_ge i n with hin | hin
      · -- a quiet one
        have hlook : ∀ k, k < m → ∀ d, D k = some d → d ∉ o.looksAt L.toArray := fun k hk d hd => (F.apart i o hin ho' k hk d hd).1
        have hput : ∀ k, k < m → ∀ d, D k = some d → o.dst ≠ some d := fun k hk d hd => (F.apart i o hin ho' k hk d hd).2
        have on : ∀ v w', Cls W (Reg obj m G W.heap.size) w' → wpAnyQ P .any (lame n m L).toArray (Cls W (Reg obj m G W.heap.size)) (fun x => x = e) fuel (listed.setIfInBounds i true) (a0.put o.dst v) →
            wpAny P .any L.toArray Q fuel (listed.setIfInBounds i true) ((putG D G m a0).put o.dst v) w' := fun v w' hw' hk => by
          obtain ⟨z, rfl⟩ := hw'
          rw [← putG_put v a0 m hput]
          refine ih _ _ G _ (by simpa using hsz) (hc.set hi) (fun j hj => getD_up (hsk j hj)) (same (by omega) v hk) z.below z.reg (fun k hk => ?_) (fun j h1 h2 h3 => hu' j h1 h2 h3 (by omega))
          rw [getD_set_ne true (by omega)]
          exact hGl k hk
        unfold qOp at hq
        rw [show (lame n m L).toArray[i]? = some o by simp only [List.getElem?_toArray]; rw [lame_lt hin]; exact ho'] at hq
        unfold wpOp
        rw [ho]
        simp only at hq ⊢
        rw [lame_wanted F.le o (fun g b h => F.guards i o hin ho' g b h)] at hq
        rw [wanted_putG o a0 m hlook]
        split at hq
        · rename_i hwn
          rw [if_pos hwn]
          refine .inl ?_
          obtain ⟨v, h1, h2⟩ := hq
          have h3 := h1 w ⟨⟨w, hb, hG⟩, rfl⟩
          unfold Oper.quietAt at h3
          unfold Oper.wp
          rw [exec_putG (ops := L.toArray) o (fun cs b => F.sel i o cs b hin ho') a0 m hlook]
          generalize (execOp a0.eval o).run P w = r at *
          cases r with
          | ok nx w' =>
            cases nx <;> simp only [Oper.quietUpon] at h3 <;> simp only [Oper.upon]
            case value u =>
              obtain ⟨e1, e2⟩ := h3
              rw [e1, e2]
              exact on v w ⟨⟨w, hb, hG⟩, rfl⟩ h2
            case skip =>
              obtain ⟨e1, e2⟩ := h3
              rw [e1, ← e2]
              exact on v w ⟨⟨w, hb, hG⟩, rfl⟩ h2
            case enter f args =>
              obtain ⟨e1, hcl⟩ := h3
              rw [e1]
              exact hcl.mono fun e w'' ⟨he, hw''⟩ => by subst he; exact on v w'' hw'' h2
          | halt x w' => simp only [Oper.quietUpon] at h3
        · rename_i hwn
          rw [if_neg hwn]
          exact on _ w ⟨⟨w, hb, hG⟩, rfl⟩ hq
      · rcases Nat.lt_or_ge i (n + m) with him | him
        · -- a new variable
          obtain ⟨k, rfl⟩ : ∃ k, i = n + k := ⟨i - n, by omega⟩
          obtain ⟨o2, ho2, hgd, hdk, hrun⟩ := F.makes k (by omega)
          rw [ho'] at ho2
          cases ho2
          have hGn : G k = none := (hGl k (by omega)).2 hiu
          have hk : wpAnyQ P .any (lame n m L).toArray (Cls W (Reg obj m G W.heap.size)) (fun x => x = e) fuel (listed.setIfInBounds (n + k) true) (a0.put o.dst undef) := by
            unfold qOp at hq
            rw [show (lame n m L).toArray[n + k]? = some (idle o) by simp only [List.getElem?_toArray]; rw [lame_mid F.le (by omega) (by omega), ho']; rfl] at hq
            simp only at hq
            split at hq
            · obtain ⟨v, h1, h2⟩ := hq
              have h3 := h1 w ⟨⟨w, hb, hG⟩, rfl⟩
              unfold Oper.quietAt at h3
              rw [BigFrame.run_move (.const undef) rfl] at h3
              have : v = undef := by have := h3.2; exact this.symm
              rw [this] at h2
              exact h2
            · exact hq
          have hB : W.heap.size ≤ w.heap.size := hb.size
          unfold wpOp
          rw [ho]
          simp only
          rw [if_pos (by unfold Region.wanted; rw [hgd])]
          refine .inl ?_
          unfold Oper.wp
          rw [hrun]
          simp only [Oper.upon]
          have hD := F.diff
          have ep : (putG D G m a0).put o.dst (ptr w.heap.size) = putG D (upd G k w.heap.size) m (a0.put o.dst undef) := by
            rw [hdk, putG_upd _ hGn m (by omega) hD, putG_none _ _ hGn m (fun j hj hne => hD j k hj (by omega) hne), put_put]
          rw [ep]
          refine ih _ _ _ _ (by simpa using hsz) (hc.set hi) (fun j hj => getD_up (hsk j hj)) (same him undef hk) (hb.alloc hB _) (hG.add hB) (fun j hj => ?_) (fun j h1 h2 h3 => hu' j h1 h2 h3 him)
          unfold upd
          by_cases ej : j = k
          · subst ej
            rw [if_pos rfl, getD_set_eq (by omega)]
            simp
          · rw [if_neg ej, getD_set_ne true (by omega)]
            exact hGl j hj
        · -- one of the tail: not while others wait
          exfalso
          apply htl
          intro j hj
          have hcv := cover hc hsk i [o] (F.tail i o him hisk ho') (fun x hx => by rw [List.mem_singleton.1 hx]; exact hall)
          exact getD_of (hcv j (by omega))

end

section
variable {ops : Array Oper} {md : Region.Mode} {C : World → Prop}
/-- The operations of these numbers, in this order, are as good as in any. -/
def lexL (md : Region.Mode) (ops : Array Oper) : List Nat → Array Bool → Bool
  | [], listed => (Region.ready md ops listed).isEmpty
  | k :: ks, listed => (Region.ready md ops listed).contains k && Region.free md ops listed k && lexL md ops ks (listed.setIfInBounds k true)
theorem wpAnyQ_list {Q : Act → Prop} (hs : Region.noSelect ops = true) : ∀ (l : List Nat) (listed : Array Bool) (a : Act), lexL md ops l listed = true → wpQuiet P ops C Q (l.filterMap (ops[·]?)) a → wpAnyQ P md ops C Q l.length listed a
  | [], _, _, hB, h => ⟨by simpa [lexL] using hB, h⟩
  | k :: l, listed, a, hB, h => by
    simp only [lexL, Bool.and_eq_true] at hB
    obtain ⟨⟨hr, hf⟩, hB'⟩ := hB
    cases h0 : ops[k]? with
    | none => unfold Region.free at hf; rw [h0] at hf; cases hf
    | some o =>
      rw [List.filterMap_cons_some h0] at h
      have hst : qOp P ops C k (wpQuiet P ops C Q (l.filterMap (ops[·]?))) a := by unfold qOp; simp only [h0]; exact h
      obtain ⟨v, hy, hK⟩ := yieldsIn_of_qOp h0 hst
      exact wpAnyQ_first h0 (Region.noSelect_spec hs) l.length listed a (Region.free_spec h0 hf) (by simpa using hr) hy (wpAnyQ_list hs l _ _ hB' hK)
end
theorem take_map (l : List Oper) : ∀ n, n ≤ l.length → (List.range n).filterMap (l.toArray[·]?) = l.take n
  | 0, _ => by simp
  | n + 1, h => by
    rw [List.range_succ, List.filterMap_append, take_map l n (by omega), List.take_add_one]
    congr 1
    simp [List.getElem?_eq_getElem (show n < l.length by omega)]

/-- The frame behind idle operations. -/
def idlePut (s : List Oper) (a : Act) : Act := s.foldl (fun x o => x.put o.dst undef) a
theorem idle_quiet {ops : Array Oper} {C : World → Prop} {e : Act} : ∀ (s : List Oper) (a : Act), (∀ o ∈ s, o.op = .move (.const undef)) → a = e → wpQuiet P ops C (fun x => x = idlePut s e) s a
  | [], a, _, h => h
  | o :: s, a, hs, h => by
    subst h
    have ih := idle_quiet (ops := ops) (C := C) s (a.put o.dst undef) (e := a.put o.dst undef) (fun o ho => hs o (List.mem_cons_of_mem _ ho)) rfl
    show if Region.wanted o (yielded ops a.tmps) then o.quiet P a C (wpQuiet P ops C (fun x => x = idlePut (o :: s) a) s) else wpQuiet P ops C (fun x => x = idlePut (o :: s) a) s (a.put o.dst undef)
    split
    · exact BigFrame.quiet_move (.const undef) (hs o List.mem_cons_self) ih
    · exact ih
theorem lame_quiet {n m : Nat} {L : List Oper} (hn : n + m ≤ L.length) {C : World → Prop} {e : Act} (s : List Oper) (hs : ∀ o ∈ s, o.op = .move (.const undef)) : ∀ (k : List Oper) (a : Act), (∀ o ∈ k, ∀ g b, o.guard = some (g, b) → g < n + m) → wpQuiet P L.toArray C (fun x => x = e) k a → wpQuiet P (lame n m L).toArray C (fun x => x = idlePut s e) (k ++ s) a
  | [], a, _, h => idle_quiet s a hs h
  | o :: k, a, hk, h => by
    have ih := fun a => lame_quiet (C := C) (e := e) hn s hs k a (fun o ho => hk o (List.mem_cons_of_mem _ ho))
    have h' : if Region.wanted o (yielded L.toArray a.tmps) then o.quiet P a C (wpQuiet P L.toArray C (fun x => x = e) k) else wpQuiet P L.toArray C (fun x => x = e) k (a.put o.dst undef) := h
    show if Region.wanted o (yielded (lame n m L).toArray a.tmps) then o.quiet P a C (wpQuiet P (lame n m L).toArray C (fun x => x = idlePut s e) (k ++ s)) else wpQuiet P (lame n m L).toArray C (fun x => x = idlePut s e) (k ++ s) (a.put o.dst undef)
    rw [lame_wanted hn o (hk o List.mem_cons_self)]
    split
    · rename_i hw; rw [if_pos hw] at h'; exact Oper.quiet_mono (fun a h => ih a h) h'
    · rename_i hw; rw [if_neg hw] at h'; exact ih _ h'
theorem putG_idle {D : Nat → Option Tmp} {G : Nat → Option Nat} {m : Nat} (hG : ∀ k, k < m → ∃ g, G k = some g) (hD : ∀ i j, i < m → j < m → i ≠ j → ∀ d, D i = some d → D j ≠ some d) : ∀ (s : List Oper) (x : Act), (∀ o ∈ s, o.dst = none ∨ ∃ k, k < m ∧ o.dst = D k) → putG D G m (idlePut s x) = putG D G m x
  | [], _, _ => rfl
  | o :: s, x, h => by
    have ih := putG_idle hG hD s (x.put o.dst undef) (fun o ho => h o (List.mem_cons_of_mem _ ho))
    show putG D G m (idlePut s (x.put o.dst undef)) = _
    rw [ih]
    rcases h o List.mem_cons_self with e | ⟨k, hk, e⟩
    · rw [e]; rfl
    · obtain ⟨g, hg⟩ := hG k hk
      rw [e, putG_set undef x hg m hk hD]

def makeB (n m : Nat) (sk : List Nat) (L : List Oper) : Bool :=
  decide (n + m < L.length) && !sk.contains (L.length - 1) && sk.all (fun i => decide (n + m ≤ i))
  && ((List.range L.length).all fun i => (((L[i]?).map fun o => o.after.all fun e => !Region.binds .any e || decide (e.on < i)).getD true))
  && ((List.range L.length).all fun i => decide (i < n + m) || sk.contains i || (((L[i]?).map fun o => coverGo sk L i [o]).getD true))
  && ((List.range n).all fun i => (((L[i]?).map fun o => (List.range m).all fun k => (match (L[n + k]?).bind (·.dst) with | some d => !(o.looksAt L.toArray).contains d && o.dst != some d | none => true)).getD true))
  && ((List.range n).all fun i => (((L[i]?).map fun o => (match o.guard with | some (g, _) => decide (g < n + m) | none => true)).getD true))
  && ((List.range (n + m)).all fun j => (List.range j).all fun i => (match (L[i]?).bind (·.dst), (L[j]?).bind (·.dst) with | some d, some d' => d != d' | _, _ => true))
  && ((List.range m).all fun k => (((L[n + k]?).map fun o => o.guard.isNone).getD false))
theorem form_of {n m : Nat} {sk : List Nat} {L : List Oper} {obj : Nat → Obj} (h : makeB n m sk L = true) (hs : Region.noSelect (lame n m L).toArray = true)
    (hO : ∀ k, k < m → ∃ o, L[n + k]? = some o ∧ ∀ (x : Operand → Value) (w : World), (execOp x o).run P w = .ok (.value (ptr w.heap.size)) (w.alloc (obj k))) : MForm P n m sk L obj (fun k => (L[n + k]?).bind (·.dst)) := by
  simp only [makeB, Bool.and_eq_true] at h
  obtain ⟨⟨⟨⟨⟨⟨⟨⟨h1, h1b⟩, h1c⟩, h2⟩, h3⟩, h4⟩, h4b⟩, h5⟩, h6⟩ := h
  have hlt : ∀ {i : Nat} {o : Oper}, L[i]? = some o → i < L.length := fun h => (List.getElem?_eq_some_iff.1 h).1
  refine ⟨by simpa using h1, by simpa using h1b, fun i hi => ?_, fun i o hio e he hb => ?_, fun i o hi his hio => ?_, fun k hk => ?_, fun i o hi hio k hk d hd => ?_, fun i o hi hio g b hg => ?_, fun i j o o' hij hjm hi hj d hd hd' => ?_, fun i o cs b hi hio => ?_⟩
  · have := List.all_eq_true.1 h1c i hi
    simpa using this
  · have h := List.all_eq_true.1 h2 i (List.mem_range.2 (hlt hio))
    rw [hio] at h
    simp only [Option.map_some, Option.getD_some] at h
    have h5 := Array.all_eq_true_iff_forall_mem.1 h e he
    simpa [hb] using h5
  · have h := List.all_eq_true.1 h3 i (List.mem_range.2 (hlt hio))
    rw [hio] at h
    simp only [Option.map_some, Option.getD_some, Bool.or_eq_true, decide_eq_true_eq] at h
    rcases h with (h | h) | h
    · omega
    · exact absurd (by simpa using h) his
    · exact h
  · obtain ⟨o, ho, hr⟩ := hO k hk
    have h := List.all_eq_true.1 h6 k (List.mem_range.2 hk)
    rw [ho] at h
    simp only [Option.map_some, Option.getD_some] at h
    exact ⟨o, ho, by simpa using h, by simp [ho], hr⟩
  · have h := List.all_eq_true.1 h4 i (List.mem_range.2 hi)
    rw [hio] at h
    simp only [Option.map_some, Option.getD_some] at h
    have h := List.all_eq_true.1 h k (List.mem_range.2 hk)
    rw [hd] at h
    simp only [Bool.and_eq_true, Bool.not_eq_true', bne_iff_ne] at h
    exact ⟨by simpa using h.1, h.2⟩
  · have h := List.all_eq_true.1 h4b i (List.mem_range.2 hi)
    rw [hio] at h
    simp only [Option.map_some, Option.getD_some, hg] at h
    simpa using h
  · have h := List.all_eq_true.1 h5 j (List.mem_range.2 hjm)
    have h := List.all_eq_true.1 h i (List.mem_range.2 hij)
    rw [hi, hj] at h
    simp only [Option.bind_some, hd, hd'] at h
    simp at h
  · refine Region.noSelect_spec hs i o cs b ?_
    simp only [List.getElem?_toArray]
    rw [lame_lt hi]
    exact hio

theorem rep_at {N i : Nat} (h : i < N) : (Array.replicate N false).getD i true = false := by
  rw [Array.getD, dif_pos (by simpa using h)]
  simp
/-- The numbers of a region's operations, without those that were taken first. -/
def rests (n : Nat) (sk : List Nat) (len : Nat) : List Nat := (List.range' n (len - n)).filter fun i => !sk.contains i
theorem wp_core {Q : Exit → Act → World → Prop} {a : Act} {w : World} {L : List Oper} (n m : Nat) (sk : List Nat) (obj : Nat → Obj) (listed : Array Bool) (hs : Region.noSelect (lame n m L).toArray = true) (hB : lexL .any (lame n m L).toArray (List.range n ++ rests n sk L.length) listed = true) (hF : makeB n m sk L = true)
    (hsz : listed.size = L.length) (hc : Closed L listed) (hsk : ∀ i, i ∈ sk → listed.getD i false = true) (hun : ∀ i, i < L.length → i ∉ sk → listed.getD i true = false)
    (hO : ∀ k, k < m → ∃ o, L[n + k]? = some o ∧ ∀ (x : Operand → Value) (w : World), (execOp x o).run P w = .ok (.value (ptr w.heap.size)) (w.alloc (obj k)))
    (h : ∃ a', (∀ R, Stays R → Nonempty (LaterR w R) → wpQuiet P L.toArray (Cls w R) (fun x => x = a') (L.take n) a) ∧
      ∀ G w', Below w.heap.size w w' → Reg obj m G w.heap.size w' → (∀ k, k < m → ∃ g, G k = some g) → wpList P L.toArray Q (tailOf sk (L.drop (n + m)) (n + m)) (putG (fun k => (L[n + k]?).bind (·.dst)) G m a') w') :
    wpAny P .any L.toArray Q (List.range n ++ rests n sk L.length).length listed a { w with drawn := w.drawn + 1 } := by
  obtain ⟨a', hq, hfin⟩ := h
  have F := form_of hF hs hO
  have hle := F.le
  have hb : Below w.heap.size w { w with drawn := w.drawn + 1 } := below_drew (Below.refl _ _)
  obtain ⟨S, hS⟩ : ∃ S, (rests n sk L.length).filterMap ((lame n m L).toArray[·]?) = S := ⟨_, rfl⟩
  have hSo : ∀ o ∈ S, ∃ i, n ≤ i ∧ (lame n m L)[i]? = some o := fun o ho => by
    rw [← hS] at ho
    obtain ⟨i, hi, h2⟩ := List.mem_filterMap.1 ho
    unfold rests at hi
    have := (List.mem_range'_1.1 (List.mem_filter.1 hi).1).1
    exact ⟨i, this, by simpa using h2⟩
  have hSm : ∀ o ∈ S, o.op = .move (.const undef) := fun o ho => by
    obtain ⟨i, h1, h2⟩ := hSo o ho
    rcases Nat.lt_or_ge i (n + m) with g | g
    · rw [lame_mid hle h1 g] at h2
      cases hL : L[i]? with
      | none => rw [hL] at h2; cases h2
      | some o' => rw [hL] at h2; cases h2; rfl
    · rw [lame_ge hle g] at h2
      cases hL : L[i]? with
      | none => rw [hL] at h2; cases h2
      | some o' => rw [hL] at h2; cases h2; rfl
  have main := any_of_make F (W := w) (e := idlePut S a') (Q := Q) (fun G w' h1 h2 h3 => ?_) (List.range n ++ rests n sk L.length).length listed a (fun _ => none) { w with drawn := w.drawn + 1 } hsz hc hsk (fun R hR hN => ?_) hb ⟨fun _ _ _ h => by (cases h), fun _ _ _ h => by (cases h), fun _ _ _ _ _ h => by (cases h)⟩ (fun k hk => ?_) (fun i _ hi his => hun i hi his)
  · have e : putG (fun k => (L[n + k]?).bind (·.dst)) (fun _ => none) m a = a := by
      generalize m = q
      induction q with
      | zero => rfl
      | succ q ih => exact ih
    rw [e] at main
    exact main
  · rw [putG_idle h3 F.diff S a' (fun o ho => ?_)]
    · exact hfin G w' h1 h2 h3
    · obtain ⟨i, h1, h2⟩ := hSo o ho
      rcases Nat.lt_or_ge i (n + m) with g | g
      · rw [lame_mid hle h1 g] at h2
        cases hL : L[i]? with
        | none => rw [hL] at h2; cases h2
        | some o' =>
          rw [hL] at h2
          cases h2
          refine Or.inr ⟨i - n, by omega, ?_⟩
          have : n + (i - n) = i := by omega
          simp only [this, hL, Option.bind_some]
          rfl
      · rw [lame_ge hle g] at h2
        cases hL : L[i]? with
        | none => rw [hL] at h2; cases h2
        | some o' => rw [hL] at h2; cases h2; exact Or.inl rfl
  · refine wpAnyQ_list hs _ _ _ hB ?_
    rw [List.filterMap_append, hS]
    have e : (List.range n).filterMap ((lame n m L).toArray[·]?) = L.take n := by
      rw [take_map _ n (by rw [lame_size hle]; omega)]
      apply List.ext_getElem?
      intro i
      rw [List.getElem?_take, List.getElem?_take]
      split
      · rename_i h; exact lame_lt h
      · rfl
    rw [e]
    refine lame_quiet hle S hSm (L.take n) a (fun o ho g b hg => ?_) (hq R hR hN)
    obtain ⟨i, hi⟩ := List.getElem?_of_mem ho
    rw [List.getElem?_take] at hi
    split at hi
    · rename_i h; exact F.guards i o h hi g b hg
    · cases hi
  · have := F.len
    rw [hun (n + k) (by omega) (fun hm => by have := F.low _ hm; omega)]
    simp

theorem wp_region_make {id : Nat} {Q : Exit → Act → World → Prop} {a : Act} {w : World} {L : List Oper} (n m : Nat) (obj : Nat → Obj) (hm : P.follows .mixedOrders = true) (hB : (Region.noSelect (lame n m L).toArray && lexL .any (lame n m L).toArray (List.range n ++ rests n [] L.length) (Array.replicate L.length false)) = true) (hF : makeB n m [] L = true)
    (hO : ∀ k, k < m → ∃ o, L[n + k]? = some o ∧ ∀ (x : Operand → Value) (w : World), (execOp x o).run P w = .ok (.value (ptr w.heap.size)) (w.alloc (obj k)))
    (h : ∃ a', (∀ R, Stays R → Nonempty (LaterR w R) → wpQuiet P L.toArray (Cls w R) (fun x => x = a') (L.take n) a) ∧
      ∀ G w', Below w.heap.size w w' → Reg obj m G w.heap.size w' → (∀ k, k < m → ∃ g, G k = some g) → wpList P L.toArray Q (L.drop (n + m)) (putG (fun k => (L[n + k]?).bind (·.dst)) G m a') w') :
    (Code.region id L.toArray true).wp P Q a w := by
  rw [Bool.and_eq_true] at hB
  refine wp_region_any hm ?_
  have hlen : (List.range n ++ rests n [] L.length).length = L.toArray.size := by
    have : n + m < L.length := by
      simp only [makeB, Bool.and_eq_true] at hF
      simpa using hF.1.1.1.1.1.1.1.1
    have e : (rests n [] L.length) = List.range' n (L.length - n) := by
      unfold rests
      apply List.filter_eq_self.2
      intro i _
      rfl
    rw [List.length_append, e]
    simp
    omega
  rw [← hlen]
  have hrep : ∀ j, (Array.replicate L.length false).getD j false = false := fun j => by
    rcases Nat.lt_or_ge j L.length with g | g
    · rw [Array.getD, dif_pos (by simpa using g)]; simp
    · rw [Array.getD, dif_neg (by simpa using g)]
  have hh : Array.replicate (List.range n ++ rests n [] L.length).length false = Array.replicate L.length false := by rw [hlen]; simp
  rw [hh]
  refine wp_core n m [] obj _ hB.1 hB.2 hF (by simp) (fun j o _ hl => ?_) (fun i hi => by cases hi) (fun i hi _ => rep_at hi) hO ?_
  · rw [hrep j] at hl; cases hl
  · obtain ⟨a', h1, h2⟩ := h
    exact ⟨a', h1, fun G w' b1 b2 b3 => by rw [tailOf_none]; exact h2 G w' b1 b2 b3⟩

/-- The same, one operation f of the tail taken first: it yields v in whatever world. -/
theorem wp_region_late {id : Nat} {Q : Exit → Act → World → Prop} {a : Act} {w : World} {L : List Oper} (n f : Nat) (o : Oper) (v : Value) (hm : P.follows .mixedOrders = true) (ho : L[f]? = some o)
    (hB : (Region.noSelect L.toArray && Region.noSelect (lame n 0 L).toArray && lexL .any (lame n 0 L).toArray (List.range n ++ rests n [f] L.length) ((Array.replicate L.length false).setIfInBounds f true) && Region.free .any L.toArray (Array.replicate L.toArray.size false) f && (Region.ready .any L.toArray (Array.replicate L.toArray.size false)).contains f && decide ((List.range n ++ rests n [f] L.length).length + 1 = L.toArray.size)) = true) (hF : makeB n 0 [f] L = true)
    (hQ : ∀ c a w, Q (.panic c) (a.put o.dst v) w → Q (.panic c) a w) (hy : Yields P L.toArray o v a)
    (h : ∃ a', (∀ R, Stays R → Nonempty (LaterR w R) → wpQuiet P L.toArray (Cls w R) (fun x => x = a') (L.take n) (a.put o.dst v)) ∧
      ∀ w', Below w.heap.size w w' → wpList P L.toArray Q (tailOf [f] (L.drop n) n) a' w') :
    (Code.region id L.toArray true).wp P Q a w := by
  simp only [Bool.and_eq_true, decide_eq_true_eq] at hB
  obtain ⟨⟨⟨⟨⟨b1, b2⟩, b3⟩, b4⟩, b5⟩, b6⟩ := hB
  have hfl : f < L.length := (List.getElem?_eq_some_iff.1 ho).1
  refine wp_region_any hm ?_
  have hfu : L.toArray.size = (List.range n ++ rests n [f] L.length).length + 1 := b6.symm
  have key : ∀ N, L.toArray.size = N → wpAny P .any L.toArray Q N (Array.replicate L.toArray.size false) a { w with drawn := w.drawn + 1 } := by
    intro N hN
    rw [hfu] at hN
    subst hN
    refine wpAny_take (i := f) (oi := o) (v := v) (by simpa using ho) b1 b4 b5 hQ hy ?_
    have hh : (Array.replicate L.toArray.size false).setIfInBounds f true = (Array.replicate L.length false).setIfInBounds f true := by simp
    rw [hh]
    have hrep : ∀ j, (Array.replicate L.length false).getD j false = false := fun j => by
      rcases Nat.lt_or_ge j L.length with g | g
      · rw [Array.getD, dif_pos (by simpa using g)]; simp
      · rw [Array.getD, dif_neg (by simpa using g)]
    refine wp_core n 0 [f] (fun _ => .cells #[] 0) _ b2 b3 hF (by simp) ?_ (fun i hi => ?_) (fun i hi his => ?_) (fun k hk => by omega) ?_
    · refine Closed.set (fun j o _ hl => ?_) ?_
      · rw [hrep j] at hl; cases hl
      · have e : Array.replicate L.toArray.size false = Array.replicate L.length false := by simp
        rw [e] at b5
        simpa using b5
    · obtain rfl : i = f := by simpa using hi
      exact getD_set_eq (by simpa using hfl) _
    · have hne : f ≠ i := fun e => his (by simp [e])
      rw [getD_set_ne true hne]
      exact rep_at hi
    · obtain ⟨a', h1, h2⟩ := h
      exact ⟨a', h1, fun G w' c1 _ _ => h2 w' c1⟩
  exact key _ rfl
theorem wp_region_make3 {id : Nat} {Q : Exit → Act → World → Prop} {a : Act} {w : World} {L : List Oper} (n : Nat) (o0 o1 o2 : Obj) (hm : P.follows .mixedOrders = true) (hB : (Region.noSelect (lame n 3 L).toArray && lexL .any (lame n 3 L).toArray (List.range n ++ rests n [] L.length) (Array.replicate L.length false)) = true) (hF : makeB n 3 [] L = true)
    (h0 : ∃ o, L[n]? = some o ∧ ∀ (x : Operand → Value) (w : World), (execOp x o).run P w = .ok (.value (ptr w.heap.size)) (w.alloc o0)) (h1 : ∃ o, L[n + 1]? = some o ∧ ∀ (x : Operand → Value) (w : World), (execOp x o).run P w = .ok (.value (ptr w.heap.size)) (w.alloc o1)) (h2 : ∃ o, L[n + 2]? = some o ∧ ∀ (x : Operand → Value) (w : World), (execOp x o).run P w = .ok (.value (ptr w.heap.size)) (w.alloc o2))
    (h : ∃ a', (∀ R, Stays R → Nonempty (LaterR w R) → wpQuiet P L.toArray (Cls w R) (fun x => x = a') (L.take n) a) ∧
      ∀ g0 g1 g2 w', Below w.heap.size w w' → w'.heap[g0]? = some o0 → w'.heap[g1]? = some o1 → w'.heap[g2]? = some o2 → w.heap.size ≤ g0 → w.heap.size ≤ g1 → w.heap.size ≤ g2 → g0 ≠ g1 → g0 ≠ g2 → g1 ≠ g2 →
        wpList P L.toArray Q (L.drop (n + 3)) (((a'.put ((L[n]?).bind (·.dst)) (.pointer (some ⟨g0, 0, none⟩))).put ((L[n + 1]?).bind (·.dst)) (.pointer (some ⟨g1, 0, none⟩))).put ((L[n + 2]?).bind (·.dst)) (.pointer (some ⟨g2, 0, none⟩))) w') :
    (Code.region id L.toArray true).wp P Q a w := by
  obtain ⟨a', hq, hfin⟩ := h
  refine wp_region_make n 3 (fun k => if k = 0 then o0 else if k = 1 then o1 else o2) hm hB hF (fun k hk => ?_) ⟨a', hq, fun G w' hb hR hG => ?_⟩
  · rcases (show k = 0 ∨ k = 1 ∨ k = 2 by omega) with rfl | rfl | rfl
    · exact h0
    · exact h1
    · exact h2
  · obtain ⟨g0, e0⟩ := hG 0 (by omega)
    obtain ⟨g1, e1⟩ := hG 1 (by omega)
    obtain ⟨g2, e2⟩ := hG 2 (by omega)
    have := hfin g0 g1 g2 w' hb (hR.has 0 g0 (by omega) e0) (hR.has 1 g1 (by omega) e1) (hR.has 2 g2 (by omega) e2) (hR.lo 0 g0 (by omega) e0) (hR.lo 1 g1 (by omega) e1) (hR.lo 2 g2 (by omega) e2)
      (fun e => by have := hR.ne 0 1 g1 (by omega) (by omega) (e ▸ e0) e1; omega) (fun e => by have := hR.ne 0 2 g2 (by omega) (by omega) (e ▸ e0) e2; omega) (fun e => by have := hR.ne 1 2 g2 (by omega) (by omega) (e ▸ e1) e2; omega)
    simp only [putG, e0, e1, e2, ptr, Nat.add_zero]
    exact this
theorem wp_region_make2 {id : Nat} {Q : Exit → Act → World → Prop} {a : Act} {w : World} {L : List Oper} (n : Nat) (o0 o1 : Obj) (hm : P.follows .mixedOrders = true) (hB : (Region.noSelect (lame n 2 L).toArray && lexL .any (lame n 2 L).toArray (List.range n ++ rests n [] L.length) (Array.replicate L.length false)) = true) (hF : makeB n 2 [] L = true)
    (h0 : ∃ o, L[n]? = some o ∧ ∀ (x : Operand → Value) (w : World), (execOp x o).run P w = .ok (.value (ptr w.heap.size)) (w.alloc o0)) (h1 : ∃ o, L[n + 1]? = some o ∧ ∀ (x : Operand → Value) (w : World), (execOp x o).run P w = .ok (.value (ptr w.heap.size)) (w.alloc o1))
    (h : ∃ a', (∀ R, Stays R → Nonempty (LaterR w R) → wpQuiet P L.toArray (Cls w R) (fun x => x = a') (L.take n) a) ∧
      ∀ g0 g1 w', Below w.heap.size w w' → w'.heap[g0]? = some o0 → w'.heap[g1]? = some o1 → w.heap.size ≤ g0 → w.heap.size ≤ g1 → g0 ≠ g1 →
        wpList P L.toArray Q (L.drop (n + 2)) ((a'.put ((L[n]?).bind (·.dst)) (.pointer (some ⟨g0, 0, none⟩))).put ((L[n + 1]?).bind (·.dst)) (.pointer (some ⟨g1, 0, none⟩))) w') :
    (Code.region id L.toArray true).wp P Q a w := by
  obtain ⟨a', hq, hfin⟩ := h
  refine wp_region_make n 2 (fun k => if k = 0 then o0 else o1) hm hB hF (fun k hk => ?_) ⟨a', hq, fun G w' hb hR hG => ?_⟩
  · rcases (show k = 0 ∨ k = 1 by omega) with rfl | rfl
    · exact h0
    · exact h1
  · obtain ⟨g0, e0⟩ := hG 0 (by omega)
    obtain ⟨g1, e1⟩ := hG 1 (by omega)
    have := hfin g0 g1 w' hb (hR.has 0 g0 (by omega) e0) (hR.has 1 g1 (by omega) e1) (hR.lo 0 g0 (by omega) e0) (hR.lo 1 g1 (by omega) e1) (fun e => by have := hR.ne 0 1 g1 (by omega) (by omega) (e ▸ e0) e1; omega)
    simp only [putG, e0, e1, ptr, Nat.add_zero]
    exact this

theorem wp_region_make0 {id : Nat} {Q : Exit → Act → World → Prop} {a : Act} {w : World} {L : List Oper} (n : Nat) (hm : P.follows .mixedOrders = true) (hB : (Region.noSelect (lame n 0 L).toArray && lexL .any (lame n 0 L).toArray (List.range n ++ rests n [] L.length) (Array.replicate L.length false)) = true) (hF : makeB n 0 [] L = true)
    (h : ∃ a', (∀ R, Stays R → Nonempty (LaterR w R) → wpQuiet P L.toArray (Cls w R) (fun x => x = a') (L.take n) a) ∧ ∀ w', Below w.heap.size w w' → wpList P L.toArray Q (L.drop n) a' w') :
    (Code.region id L.toArray true).wp P Q a w := by
  obtain ⟨a', hq, hfin⟩ := h
  exact wp_region_make n 0 (fun _ => .cells #[] 0) hm hB hF (fun k hk => by omega) ⟨a', hq, fun G w' hb _ _ => hfin w' hb⟩

end
end Go.Proofs.Ytibgilaeepmheaa
