import PyProof.Rows.All
import Wide.All
import OpenK.AllK
import Wide.FinOn
import HandS.ForMost
import HandS.Walk
import HandS.Strs
import HandS.IsInst
import HandS.Gcd
import HandS.Defaults
import HandS.More
import HandS.Conv
import KE.KDictZip
import KE.KMathG
import HandS.ExcInit
import HandS.ExcField
import HandS.ExcIs
import HandS.ExcOwn
import HandS.ExcValue
import KE.KExcIs
import KE.KOpsOwn
import HandS.WordsExc
import HandS.CallSlots
import HandS.Flow
import HandS.FStr
import HandS.TupSets
import HandS.DictComp
import HandS.TryMany
import PyProof.InstNe
import KE.KCallOwn
import PySem.Challenge.RW_turnwires_k02_wires
set_option Elab.async false
set_option linter.all false
set_option maxRecDepth 100000
namespace TW
/-! ### iteration -/
def it (f : Nat → Nat) : Nat → Nat → Nat
  | 0, x => x
  | k + 1, x => f (it f k x)
theorem it_add (f : Nat → Nat) (a b x : Nat) : it f (a + b) x = it f a (it f b x) := by
  induction a with
  | zero => rw [Nat.zero_add]; rfl
  | succ a ih => rw [Nat.succ_add]; show f (it f (a + b) x) = f (it f a (it f b x)); rw [ih]
theorem it_succ' (f : Nat → Nat) (k x : Nat) : it f (k + 1) x = it f k (f x) := it_add f k 1 x
/-- f leads the places below n to places below n, one to one -/
structure PermF (f : Nat → Nat) (n : Nat) : Prop where
  lt : ∀ x, x < n → f x < n
  inj : ∀ x y, x < n → y < n → f x = f y → x = y
theorem PermF.it_lt {f : Nat → Nat} {n : Nat} (P : PermF f n) (k : Nat) {x : Nat} (h : x < n) : it f k x < n := by
  induction k with
  | zero => exact h
  | succ k ih => exact P.lt _ ih
theorem PermF.it_inj {f : Nat → Nat} {n : Nat} (P : PermF f n) (k : Nat) {x y : Nat} (hx : x < n) (hy : y < n) (e : it f k x = it f k y) : x = y := by
  induction k with
  | zero => exact e
  | succ k ih => exact ih (P.inj _ _ (P.it_lt k hx) (P.it_lt k hy) e)
theorem nodup_le : ∀ (n : Nat) (l : List Nat), l.Nodup → (∀ x ∈ l, x < n) → l.length ≤ n
  | 0, l, _, h => by
    cases l with
    | nil => exact Nat.le_refl _
    | cons a r => exact absurd (h a List.mem_cons_self) (Nat.not_lt_zero _)
  | n + 1, l, nd, h => by
    have h1 : (l.erase n).Nodup := nd.erase n
    have h2 : ∀ x ∈ l.erase n, x < n := fun x hx => by
      have a := (List.Nodup.mem_erase_iff nd).mp hx
      have b := h x a.2
      have c := a.1
      omega
    have ih := nodup_le n (l.erase n) h1 h2
    have e : l.length ≤ (l.erase n).length + 1 := by
      rw [List.length_erase]
      split <;> omega
    omega
theorem not_nodup_of_long {n : Nat} {l : List Nat} (h : ∀ x ∈ l, x < n) (hl : n < l.length) : ¬ l.Nodup := fun nd => by
  have := nodup_le n l nd h
  omega
theorem exists_return {f : Nat → Nat} {n : Nat} (P : PermF f n) {p : Nat} (hp : p < n) : ∃ m, 0 < m ∧ m ≤ n ∧ it f m p = p := by
  by_cases hex : ∃ i j, i < j ∧ j ≤ n ∧ it f i p = it f j p
  · obtain ⟨i, j, hij, hj, e⟩ := hex
    refine ⟨j - i, by omega, by omega, ?_⟩
    have e2 : j = i + (j - i) := by omega
    rw [e2, it_add] at e
    exact (P.it_inj i hp (P.it_lt _ hp) e).symm
  · exfalso
    refine not_nodup_of_long (n := n) (l := (List.range (n + 1)).map fun k => it f k p) ?_ ?_ ?_
    · intro x hx
      obtain ⟨k, _, rfl⟩ := List.mem_map.mp hx
      exact P.it_lt k hp
    · rw [List.length_map, List.length_range]; omega
    · rw [List.nodup_iff_pairwise_ne, List.pairwise_map]
      refine List.Pairwise.imp_of_mem ?_ (List.pairwise_lt_range (n := n + 1))
      intro a b ha hb hab e
      exact hex ⟨a, b, hab, by have := List.mem_range.mp hb; omega, e⟩
/-- the least k ≥ 1 with it f k p = p, sought below n -/
def perA (f : Nat → Nat) (p : Nat) : Nat → Nat → Nat
  | 0, k => k
  | fuel + 1, k => if it f k p = p then k else perA f p fuel (k + 1)
def per (f : Nat → Nat) (n p : Nat) : Nat := perA f p n 1
theorem perA_spec (f : Nat → Nat) (p : Nat) : ∀ (fuel k m : Nat), k ≤ m → m < k + fuel → it f m p = p → (∀ i, 0 < i → i < k → it f i p ≠ p) → 0 < k →
    0 < perA f p fuel k ∧ it f (perA f p fuel k) p = p ∧ perA f p fuel k ≤ m ∧ ∀ i, 0 < i → i < perA f p fuel k → it f i p ≠ p
  | 0, k, m, h1, h2, _, _, _ => by omega
  | fuel + 1, k, m, h1, h2, e, hl, hk => by
    unfold perA
    by_cases c : it f k p = p
    · rw [if_pos c]
      exact ⟨hk, c, h1, hl⟩
    · rw [if_neg c]
      have hkm : k ≠ m := fun z => c (z ▸ e)
      refine perA_spec f p fuel (k + 1) m (by omega) (by omega) e (fun i i0 ik => ?_) (by omega)
      by_cases ci : i = k
      · rw [ci]; exact c
      · exact hl i i0 (by omega)
section
variable {f : Nat → Nat} {n : Nat} (P : PermF f n) {p : Nat} (hp : p < n)
include P hp
theorem per_spec : 0 < per f n p ∧ it f (per f n p) p = p ∧ per f n p ≤ n ∧ ∀ i, 0 < i → i < per f n p → it f i p ≠ p := by
  obtain ⟨m, h0, hm, e⟩ := exists_return P hp
  obtain ⟨a, b, c, d⟩ := perA_spec f p n 1 m (by omega) (by omega) e (fun i _ _ => by omega) (by omega)
  exact ⟨a, b, Nat.le_trans c hm, d⟩
theorem per_mod (k : Nat) : it f k p = it f (k % per f n p) p := by
  obtain ⟨h0, e, _, _⟩ := per_spec P hp
  have key : ∀ q r, it f (q * per f n p + r) p = it f r p := by
    intro q
    induction q with
    | zero => intro r; rw [Nat.zero_mul, Nat.zero_add]
    | succ q ih =>
      intro r
      rw [show (q + 1) * per f n p + r = (q * per f n p + r) + per f n p by rw [Nat.succ_mul]; omega, it_add, e]
      exact ih r
  conv => lhs; rw [← Nat.div_add_mod k (per f n p), Nat.mul_comm]
  exact key _ _
theorem it_inj_lt {i j : Nat} (hi : i < per f n p) (hj : j < per f n p) (e : it f i p = it f j p) : i = j := by
  obtain ⟨h0, _, _, hl⟩ := per_spec P hp
  have key : ∀ a b, a < b → b < per f n p → it f a p = it f b p → False := by
    intro a b hab hb e
    have e2 : b = a + (b - a) := by omega
    rw [e2, it_add] at e
    exact hl (b - a) (by omega) (by omega) (P.it_inj a hp (P.it_lt _ hp) e).symm
  rcases Nat.lt_trichotomy i j with h | h | h
  · exact (key i j h hj e).elim
  · exact h
  · exact (key j i h hi e.symm).elim
end
/-- the ring of p -/
def ring (f : Nat → Nat) (n p : Nat) : List Nat := (List.range (per f n p)).map fun k => it f k p
theorem ring_len (f : Nat → Nat) (n p : Nat) : (ring f n p).length = per f n p := by unfold ring; rw [List.length_map, List.length_range]
theorem ring_get (f : Nat → Nat) (n p k : Nat) (h : k < per f n p) : (ring f n p)[k]? = some (it f k p) := by
  unfold ring; rw [List.getElem?_map, List.getElem?_range h]; rfl
section
variable {f : Nat → Nat} {n : Nat} (P : PermF f n) {p x : Nat} (hp : p < n)
include P hp
theorem mem_ring : x ∈ ring f n p ↔ ∃ k, it f k p = x := by
  constructor
  · intro h
    obtain ⟨k, _, e⟩ := List.mem_map.mp h
    exact ⟨k, e⟩
  · rintro ⟨k, e⟩
    refine List.mem_map.mpr ⟨k % per f n p, List.mem_range.mpr (Nat.mod_lt _ (per_spec P hp).1), ?_⟩
    rw [← per_mod P hp, e]
theorem ring_lt (h : x ∈ ring f n p) : x < n := by
  obtain ⟨k, rfl⟩ := (mem_ring P hp).mp h
  exact P.it_lt k hp
theorem ring_nodup : (ring f n p).Nodup := by
  unfold ring
  rw [List.nodup_iff_pairwise_ne, List.pairwise_map]
  refine List.Pairwise.imp_of_mem ?_ (List.pairwise_lt_range (n := per f n p))
  intro a b ha hb hab e
  have := it_inj_lt P hp (List.mem_range.mp ha) (List.mem_range.mp hb) e
  omega
theorem self_ring : p ∈ ring f n p := (mem_ring P hp).mpr ⟨0, rfl⟩
theorem ring_symm (h : x ∈ ring f n p) : p ∈ ring f n x := by
  have hx := ring_lt P hp h
  obtain ⟨k, _, e⟩ := List.mem_map.mp h
  have hk := List.mem_range.mp ‹_›
  refine (mem_ring P hx).mpr ⟨per f n p - k, ?_⟩
  have e : it f k p = x := e
  rw [← e, ← it_add, Nat.sub_add_cancel (Nat.le_of_lt hk)]
  exact (per_spec P hp).2.1
theorem ring_trans {y : Nat} (h : x ∈ ring f n p) (h2 : y ∈ ring f n x) : y ∈ ring f n p := by
  have hx := ring_lt P hp h
  obtain ⟨k, e⟩ := (mem_ring P hp).mp h
  obtain ⟨j, e2⟩ := (mem_ring P hx).mp h2
  refine (mem_ring P hp).mpr ⟨j + k, ?_⟩
  rw [it_add, e, e2]
theorem ring_next (h : x ∈ ring f n p) : f x ∈ ring f n p := by
  obtain ⟨k, e⟩ := (mem_ring P hp).mp h
  exact (mem_ring P hp).mpr ⟨k + 1, by show f (it f k p) = f x; rw [e]⟩
theorem per_one : per f n p = 1 ↔ f p = p := by
  obtain ⟨h0, e, _, hl⟩ := per_spec P hp
  constructor
  · intro h
    rw [h] at e
    exact e
  · intro h
    rcases Nat.lt_or_ge 1 (per f n p) with c | c
    · exact absurd h (hl 1 (by omega) c)
    · omega
end
/-- p is the least of its ring -/
def lead (f : Nat → Nat) (n p : Nat) : Bool := (ring f n p).all fun x => decide (p ≤ x)
theorem lead_iff (f : Nat → Nat) (n p : Nat) : lead f n p = true ↔ ∀ x ∈ ring f n p, p ≤ x := by
  unfold lead
  rw [List.all_eq_true]
  constructor
  · intro h x hx; exact of_decide_eq_true (h x hx)
  · intro h x hx; exact decide_eq_true (h x hx)
theorem exists_min : ∀ (l : List Nat), l ≠ [] → ∃ m, m ∈ l ∧ ∀ x ∈ l, m ≤ x
  | [], h => absurd rfl h
  | [a], _ => ⟨a, List.mem_cons_self, fun x hx => by rw [List.mem_singleton.mp hx]; exact Nat.le_refl _⟩
  | a :: b :: r, _ => by
    obtain ⟨m, hm, hl⟩ := exists_min (b :: r) (by simp)
    by_cases c : a ≤ m
    · refine ⟨a, List.mem_cons_self, fun x hx => ?_⟩
      rcases List.mem_cons.mp hx with e | e
      · omega
      · have := hl x e; omega
    · refine ⟨m, List.mem_cons_of_mem _ hm, fun x hx => ?_⟩
      rcases List.mem_cons.mp hx with e | e
      · omega
      · exact hl x e
section
variable {f : Nat → Nat} {n : Nat} (P : PermF f n) {p : Nat} (hp : p < n)
include P hp
/-- the least of p's ring -/
theorem leader_of : ∃ q, q ≤ p ∧ lead f n q = true ∧ p ∈ ring f n q ∧ q ∈ ring f n p := by
  obtain ⟨q, hq, hl⟩ := exists_min (ring f n p) (fun z => by have := self_ring P hp; rw [z] at this; cases this)
  have hqn := ring_lt P hp hq
  refine ⟨q, hl p (self_ring P hp), (lead_iff f n q).mpr fun x hx => hl x (ring_trans P hp hq hx), ring_symm P hp hq, hq⟩
/-- p is no leader just if a lesser leader's ring has it -/
theorem not_lead_iff : lead f n p = false ↔ ∃ q, q < p ∧ lead f n q = true ∧ p ∈ ring f n q := by
  constructor
  · intro h
    obtain ⟨q, hqp, hl, hm, _⟩ := leader_of P hp
    refine ⟨q, ?_, hl, hm⟩
    rcases Nat.lt_or_ge q p with c | c
    · exact c
    · have e : q = p := by omega
      rw [e] at hl
      rw [hl] at h
      cases h
  · rintro ⟨q, hqp, hl, hm⟩
    have hqn : q < n := by omega
    have h2 := ring_symm P hqn hm
    cases c : lead f n p with
    | false => rfl
    | true =>
      have := (lead_iff f n p).mp c q h2
      omega
end
theorem lead_unique {f : Nat → Nat} {n : Nat} (P : PermF f n) {p q x : Nat} (hp : p < n) (hq : q < n) (lp : lead f n p = true) (lq : lead f n q = true) (h1 : x ∈ ring f n p) (h2 : x ∈ ring f n q) : p = q := by
  have hx := ring_lt P hp h1
  have a : p ∈ ring f n q := ring_trans P hq h2 (ring_symm P hp h1)
  have b : q ∈ ring f n p := ring_trans P hp h1 (ring_symm P hq h2)
  have c := (lead_iff f n q).mp lq p a
  have d := (lead_iff f n p).mp lp q b
  omega
/-- the rings of two or more places, of leaders below i -/
def heads (f : Nat → Nat) (n i : Nat) : List Nat := (List.range i).filter fun p => lead f n p && decide (f p ≠ p)
def ringsTo (f : Nat → Nat) (n i : Nat) : List (List Nat) := (heads f n i).map (ring f n)
def rings (f : Nat → Nat) (n : Nat) : List (List Nat) := ringsTo f n n
theorem ringsTo_succ (f : Nat → Nat) (n i : Nat) : ringsTo f n (i + 1) = ringsTo f n i ++ (if lead f n i = true ∧ f i ≠ i then [ring f n i] else []) := by
  unfold ringsTo heads
  rw [List.range_succ, List.filter_append, List.map_append]
  congr 1
  by_cases c : lead f n i = true ∧ f i ≠ i
  · rw [if_pos c, List.filter_cons_of_pos (by simp [c.1, c.2])]
    rfl
  · rw [if_neg c, List.filter_cons_of_neg (by simp only [Bool.and_eq_true, decide_eq_true_eq]; exact c)]
    rfl
theorem mem_heads {f : Nat → Nat} {n i p : Nat} : p ∈ heads f n i ↔ p < i ∧ lead f n p = true ∧ f p ≠ p := by
  unfold heads
  rw [List.mem_filter, List.mem_range, Bool.and_eq_true, decide_eq_true_eq]
end TW

namespace TW
/-! ### a ring's pairs -/
def rot (r : List Nat) : List Nat := r.drop 1 ++ r.take 1
def nxt (r : List Nat) : List (Nat × Nat) := r.zip (rot r)
def graph (f : Nat → Nat) (r : List Nat) : List (Nat × Nat) := r.map fun x => (x, f x)
/-- the ring is led on by f -/
def Follows (f : Nat → Nat) (r : List Nat) : Prop := nxt r = graph f r
theorem rot_len (r : List Nat) : (rot r).length = r.length := by
  unfold rot
  rw [List.length_append, List.length_drop, List.length_take]
  omega
theorem follows_iff {f : Nat → Nat} {r : List Nat} : Follows f r ↔ rot r = r.map f := by
  unfold Follows nxt graph
  constructor
  · intro h
    have e := congrArg (List.map Prod.snd) h
    rw [List.map_snd_zip (by rw [rot_len]; exact Nat.le_refl _), List.map_map] at e
    exact e
  · intro h
    rw [h]
    clear h
    induction r with
    | nil => rfl
    | cons a r ih => show (a, f a) :: r.zip (r.map f) = (a, f a) :: r.map (fun x => (x, f x)); rw [ih]
theorem follows_ring {f : Nat → Nat} {n : Nat} (P : PermF f n) {p : Nat} (hp : p < n) : Follows f (ring f n p) := by
  rw [follows_iff]
  obtain ⟨h0, e, _, _⟩ := per_spec P hp
  apply List.ext_getElem?
  intro i
  unfold rot
  rw [List.getElem?_append, List.length_drop, ring_len, List.getElem?_map]
  by_cases c : i < per f n p - 1
  · rw [if_pos c, List.getElem?_drop, ring_get f n p (1 + i) (by omega), ring_get f n p i (by omega)]
    rw [Nat.add_comm]
    rfl
  · rw [if_neg c]
    by_cases c2 : i = per f n p - 1
    · rw [c2, Nat.sub_self, ring_get f n p _ (by omega), List.getElem?_take]
      rw [if_pos (by omega), ring_get f n p 0 h0]
      show some p = some (f (it f (per f n p - 1) p))
      have : it f (per f n p - 1 + 1) p = f (it f (per f n p - 1) p) := rfl
      rw [← this, Nat.sub_add_cancel h0, e]
    · rw [List.getElem?_take]
      have l : (ring f n p)[i]? = none := List.getElem?_eq_none (by rw [ring_len]; omega)
      rw [l]
      by_cases c3 : i - (per f n p - 1) < 1
      · exfalso; omega
      · rw [if_neg c3]; rfl
/-! ### the heads, once more -/
theorem heads_sorted (f : Nat → Nat) (n i : Nat) : (heads f n i).Pairwise (· < ·) := List.Pairwise.filter _ List.pairwise_lt_range
theorem ext_sorted : ∀ {l m : List Nat}, l.Pairwise (· < ·) → m.Pairwise (· < ·) → (∀ x, x ∈ l ↔ x ∈ m) → l = m
  | [], [], _, _, _ => rfl
  | [], b :: m, _, _, h => absurd ((h b).mpr List.mem_cons_self) (by simp)
  | a :: l, [], _, _, h => absurd ((h a).mp List.mem_cons_self) (by simp)
  | a :: l, b :: m, hl, hm, h => by
    obtain ⟨ha, hl'⟩ := List.pairwise_cons.mp hl
    obtain ⟨hb, hm'⟩ := List.pairwise_cons.mp hm
    have e : a = b := by
      rcases List.mem_cons.mp ((h a).mp List.mem_cons_self) with q | q
      · exact q
      · rcases List.mem_cons.mp ((h b).mpr List.mem_cons_self) with q2 | q2
        · exact q2.symm
        · have := hb a q
          have := ha b q2
          omega
    subst e
    congr 1
    refine ext_sorted hl' hm' fun x => ?_
    constructor
    · intro hx
      rcases List.mem_cons.mp ((h x).mp (List.mem_cons_of_mem _ hx)) with q | q
      · have := ha x hx; omega
      · exact q
    · intro hx
      rcases List.mem_cons.mp ((h x).mpr (List.mem_cons_of_mem _ hx)) with q | q
      · have := hb x hx; omega
      · exact q
/-- sorted keys that hold all places that move give the same heads -/
theorem heads_of {f : Nat → Nat} {n : Nat} {ys : List Nat} (hs : ys.Pairwise (· < ·)) (hlt : ∀ y ∈ ys, y < n) (hall : ∀ x, x < n → f x ≠ x → x ∈ ys) :
    ys.filter (fun p => lead f n p && decide (f p ≠ p)) = heads f n n := by
  refine ext_sorted (List.Pairwise.filter _ hs) (heads_sorted f n n) fun x => ?_
  rw [mem_heads, List.mem_filter, Bool.and_eq_true, decide_eq_true_eq]
  constructor
  · rintro ⟨a, b, c⟩; exact ⟨hlt x a, b, c⟩
  · rintro ⟨a, b, c⟩; exact ⟨hall x a c, b, c⟩
/-! ### all rings in a row -/
theorem flatten_nodup {f : Nat → Nat} {n : Nat} (P : PermF f n) : ∀ {hs : List Nat}, hs.Pairwise (· < ·) → (∀ p ∈ hs, p < n ∧ lead f n p = true) → ((hs.map (ring f n)).flatten).Nodup
  | [], _, _ => by simp
  | p :: hs, h, hl => by
    obtain ⟨h1, h2⟩ := List.pairwise_cons.mp h
    obtain ⟨hp, lp⟩ := hl p List.mem_cons_self
    show (ring f n p ++ (hs.map (ring f n)).flatten).Nodup
    rw [List.nodup_append]
    refine ⟨ring_nodup P hp, flatten_nodup P h2 fun q hq => hl q (List.mem_cons_of_mem _ hq), fun a ha b hb e => ?_⟩
    subst e
    obtain ⟨r, hr, har⟩ := List.mem_flatten.mp hb
    obtain ⟨q, hq, rfl⟩ := List.mem_map.mp hr
    obtain ⟨hqn, lq⟩ := hl q (List.mem_cons_of_mem _ hq)
    have := h1 q hq
    have := lead_unique P hp hqn lp lq ha har
    omega
theorem rings_nodup {f : Nat → Nat} {n : Nat} (P : PermF f n) : (rings f n).flatten.Nodup :=
  flatten_nodup P (heads_sorted f n n) fun p hp => by obtain ⟨a, b, _⟩ := mem_heads.mp hp; exact ⟨a, b⟩
theorem rings_lt {f : Nat → Nat} {n : Nat} (P : PermF f n) {x : Nat} (h : x ∈ (rings f n).flatten) : x < n := by
  obtain ⟨r, hr, hx⟩ := List.mem_flatten.mp h
  obtain ⟨q, hq, rfl⟩ := List.mem_map.mp hr
  exact ring_lt P (mem_heads.mp hq).1 hx
theorem rings_all {f : Nat → Nat} {n : Nat} (P : PermF f n) {x : Nat} (hx : x < n) (hm : f x ≠ x) : x ∈ (rings f n).flatten := by
  obtain ⟨q, hq, lq, h1, h2⟩ := leader_of P hx
  have hqn : q < n := by omega
  refine List.mem_flatten.mpr ⟨ring f n q, List.mem_map.mpr ⟨q, mem_heads.mpr ⟨hqn, lq, fun e => ?_⟩, rfl⟩, h1⟩
  have o := (per_one P hqn).mpr e
  have l : ring f n q = [q] := by unfold ring; rw [o]; rfl
  rw [l] at h1
  rw [List.mem_singleton.mp h1] at hm
  exact hm e
theorem rings_ne {f : Nat → Nat} {n : Nat} (P : PermF f n) {r : List Nat} (h : r ∈ rings f n) : r ≠ [] := by
  obtain ⟨q, hq, rfl⟩ := List.mem_map.mp h
  intro e
  have := self_ring P (mem_heads.mp hq).1
  rw [e] at this
  cases this
theorem rings_follow {f : Nat → Nat} {n : Nat} (P : PermF f n) {r : List Nat} (h : r ∈ rings f n) : Follows f r := by
  obtain ⟨q, hq, rfl⟩ := List.mem_map.mp h
  exact follows_ring P (mem_heads.mp hq).1
theorem graph_append (f : Nat → Nat) (a b : List Nat) : graph f (a ++ b) = graph f a ++ graph f b := List.map_append
theorem graph_fst (f : Nat → Nat) (a : List Nat) : (graph f a).map Prod.fst = a := by
  unfold graph
  rw [List.map_map]
  show a.map (fun x => x) = a
  exact List.map_id' a
/-! ### a list as a map of its places -/
def ap (im : List Nat) (x : Nat) : Nat := im.getD x 0
structure IsPerm (im : List Nat) : Prop where
  nd : im.Nodup
  lt : ∀ x ∈ im, x < im.length
theorem ap_get {im : List Nat} {x : Nat} (h : x < im.length) : im[x]? = some (ap im x) := by
  unfold ap
  rw [List.getD_eq_getElem?_getD, List.getElem?_eq_getElem h]
  rfl
theorem ap_mem {im : List Nat} {x : Nat} (h : x < im.length) : ap im x ∈ im := List.mem_of_getElem? (ap_get h)
theorem IsPerm.perm {im : List Nat} (h : IsPerm im) : PermF (ap im) im.length where
  lt x hx := h.lt _ (ap_mem hx)
  inj x y hx hy e := by
    have a := ap_get hx
    have b := ap_get hy
    rw [e] at a
    obtain ⟨h1, e1⟩ := List.getElem?_eq_some_iff.mp a
    obtain ⟨h2, e2⟩ := List.getElem?_eq_some_iff.mp b
    exact (List.getElem_inj h.nd).mp (e1.trans e2.symm)
theorem im_eq (im : List Nat) : (List.range im.length).map (ap im) = im := by
  apply List.ext_getElem?
  intro i
  rw [List.getElem?_map]
  by_cases c : i < im.length
  · rw [List.getElem?_range c, ap_get c]; rfl
  · rw [List.getElem?_eq_none (by rw [List.length_range]; omega), List.getElem?_eq_none (by omega)]; rfl
end TW

namespace TW
/-! ### drawing -/
theorem isPerm_of {n : Nat} {im : List Nat} (h : im.Perm (List.range n)) : IsPerm im ∧ im.length = n := by
  have hl : im.length = n := by rw [h.length_eq, List.length_range]
  refine ⟨⟨h.nodup_iff.mpr List.nodup_range, fun x hx => ?_⟩, hl⟩
  rw [hl]
  exact List.mem_range.mp (h.mem_iff.mp hx)
theorem cons_erase_perm : ∀ {l : List Nat} {k x : Nat}, l[k]? = some x → (x :: l.eraseIdx k).Perm l
  | [], k, x, h => by simp at h
  | a :: l, 0, x, h => by
    have e : a = x := Option.some.inj h
    rw [e]
    exact List.Perm.refl _
  | a :: l, k + 1, x, h => by
    have ih := cons_erase_perm (l := l) (k := k) (x := x) h
    exact (List.Perm.swap a x (l.eraseIdx k)).trans (List.Perm.cons a ih)
theorem draw_step {n k x : Nat} {im rest : List Nat} (h : (im ++ rest).Perm (List.range n)) (hx : rest[k]? = some x) : ((im ++ [x]) ++ rest.eraseIdx k).Perm (List.range n) := by
  obtain ⟨hk, e⟩ := List.getElem?_eq_some_iff.mp hx
  refine List.Perm.trans ?_ h
  rw [List.append_assoc]
  refine List.Perm.append_left im ?_
  exact cons_erase_perm hx
theorem erase_map {α β : Type} (f : α → β) : ∀ (l : List α) (k : Nat), (l.map f).eraseIdx k = (l.eraseIdx k).map f
  | [], k => by simp
  | a :: l, 0 => rfl
  | a :: l, k + 1 => congrArg (List.cons (f a)) (erase_map f l k)
theorem erase_len {k x : Nat} {rest : List Nat} (hx : rest[k]? = some x) : (rest.eraseIdx k).length + 1 = rest.length := by
  obtain ⟨hk, _⟩ := List.getElem?_eq_some_iff.mp hx
  rw [List.length_eraseIdx_of_lt hk]
  omega
end TW

namespace TW
/-! ### a ring as it grows -/
def pref (f : Nat → Nat) (p k : Nat) : List Nat := (List.range k).map fun j => it f j p
theorem pref_succ (f : Nat → Nat) (p k : Nat) : pref f p (k + 1) = pref f p k ++ [it f k p] := by
  unfold pref
  rw [List.range_succ, List.map_append]
  rfl
theorem pref_len (f : Nat → Nat) (p k : Nat) : (pref f p k).length = k := by unfold pref; rw [List.length_map, List.length_range]
theorem ring_pref (f : Nat → Nat) (n p : Nat) : ring f n p = pref f p (per f n p) := rfl
section
variable {f : Nat → Nat} {n : Nat} (P : PermF f n) {p : Nat} (hp : p < n)
include P hp
theorem back_iff {j : Nat} (hj : j < per f n p) : it f (j + 1) p = p ↔ j + 1 = per f n p := by
  obtain ⟨h0, e, _, hl⟩ := per_spec P hp
  constructor
  · intro h
    rcases Nat.lt_or_ge (j + 1) (per f n p) with c | c
    · exact absurd h (hl (j + 1) (by omega) c)
    · omega
  · intro h; rw [h]; exact e
/-- who is met so far -/
theorem seen_lead {s : List Nat} (hs : ∀ x, x ∈ s ↔ ∃ q, q < p ∧ x ∈ ring f n q) : p ∈ s ↔ lead f n p = false := by
  rw [hs, not_lead_iff P hp]
  constructor
  · rintro ⟨q, hq, hm⟩
    have hqn : q < n := by omega
    obtain ⟨r, hr, lr, h1, h2⟩ := leader_of P hp
    have h3 := ring_symm P hqn hm
    have := (lead_iff f n r).mp lr q (ring_trans P (by omega) h1 h3)
    exact ⟨r, by omega, lr, h1⟩
  · rintro ⟨q, hq, _, hm⟩
    exact ⟨q, hq, hm⟩
theorem seen_skip {s : List Nat} (hs : ∀ x, x ∈ s ↔ ∃ q, q < p ∧ x ∈ ring f n q) (hm : p ∈ s) (x : Nat) : x ∈ s ↔ ∃ q, q < p + 1 ∧ x ∈ ring f n q := by
  constructor
  · intro h
    obtain ⟨q, hq, h2⟩ := (hs x).mp h
    exact ⟨q, by omega, h2⟩
  · rintro ⟨q, hq, h2⟩
    by_cases c : q = p
    · subst c
      obtain ⟨r, hr, h3⟩ := (hs q).mp hm
      exact (hs x).mpr ⟨r, hr, ring_trans P (by omega) h3 h2⟩
    · exact (hs x).mpr ⟨q, by omega, h2⟩
end
theorem seen_more {f : Nat → Nat} {n p : Nat} {s : List Nat} (hs : ∀ x, x ∈ s ↔ ∃ q, q < p ∧ x ∈ ring f n q) (x : Nat) : x ∈ s ++ ring f n p ↔ ∃ q, q < p + 1 ∧ x ∈ ring f n q := by
  rw [List.mem_append]
  constructor
  · rintro (h | h)
    · obtain ⟨q, hq, h2⟩ := (hs x).mp h
      exact ⟨q, by omega, h2⟩
    · exact ⟨p, by omega, h⟩
  · rintro ⟨q, hq, h2⟩
    by_cases c : q = p
    · subst c; exact .inr h2
    · exact .inl ((hs x).mpr ⟨q, by omega, h2⟩)
theorem ringsTo_skip {f : Nat → Nat} {n i : Nat} (h : lead f n i = false) : ringsTo f n (i + 1) = ringsTo f n i := by
  rw [ringsTo_succ, if_neg (by rw [h]; simp), List.append_nil]
theorem ringsTo_stay {f : Nat → Nat} {n i : Nat} (h : f i = i) : ringsTo f n (i + 1) = ringsTo f n i := by
  rw [ringsTo_succ, if_neg (fun c => c.2 h), List.append_nil]
theorem ringsTo_more {f : Nat → Nat} {n i : Nat} (h : lead f n i = true) (h2 : f i ≠ i) : ringsTo f n (i + 1) = ringsTo f n i ++ [ring f n i] := by
  rw [ringsTo_succ, if_pos ⟨h, h2⟩]
theorem heads_len (f : Nat → Nat) (n i : Nat) : (heads f n i).length ≤ i := by
  unfold heads
  exact Nat.le_trans (List.length_filter_le _ _) (by rw [List.length_range]; exact Nat.le_refl _)
theorem ringsTo_len (f : Nat → Nat) (n i : Nat) : (ringsTo f n i).length ≤ i := by
  unfold ringsTo
  rw [List.length_map]
  exact heads_len f n i
end TW

namespace TW
/-! ### the pairs of rings in a row -/
def pairs (rs : List (List Nat)) : List (Nat × Nat) := (rs.map nxt).flatten
theorem nxt_fst (r : List Nat) : (nxt r).map Prod.fst = r := by
  unfold nxt
  exact List.map_fst_zip (by rw [rot_len]; exact Nat.le_refl _)
theorem nxt_len (r : List Nat) : (nxt r).length = r.length := by
  have := congrArg List.length (nxt_fst r)
  rw [List.length_map] at this
  exact this
theorem pairs_fst (rs : List (List Nat)) : (pairs rs).map Prod.fst = rs.flatten := by
  unfold pairs
  induction rs with
  | nil => rfl
  | cons r rs ih =>
    show ((nxt r) ++ (rs.map nxt).flatten).map Prod.fst = r ++ rs.flatten
    rw [List.map_append, nxt_fst, ih]
theorem pairs_snoc {rs : List (List Nat)} {i : Nat} {r : List Nat} (h : rs[i]? = some r) : pairs (rs.take (i + 1)) = pairs (rs.take i) ++ nxt r := by
  unfold pairs
  rw [List.take_add_one, h, List.map_append, List.flatten_append]
  show _ ++ [nxt r].flatten = _
  rw [List.flatten_singleton]
theorem pairs_take_len (rs : List (List Nat)) (i : Nat) : (pairs (rs.take i)).length ≤ rs.flatten.length := by
  have e := congrArg List.length (pairs_fst (rs.take i))
  rw [List.length_map] at e
  rw [e]
  have h : rs.flatten = (rs.take i).flatten ++ (rs.drop i).flatten := by rw [← List.flatten_append, List.take_append_drop]
  rw [h, List.length_append]
  omega
/-- the j-th place of the i-th ring is not among those before -/
theorem not_before {rs : List (List Nat)} (hnd : rs.flatten.Nodup) {i j x : Nat} {r : List Nat} (h : rs[i]? = some r) (hx : r[j]? = some x) : x ∉ (pairs (rs.take i) ++ (nxt r).take j).map Prod.fst := by
  rw [List.map_append, pairs_fst, List.map_take, nxt_fst]
  obtain ⟨hi, ei⟩ := List.getElem?_eq_some_iff.mp h
  obtain ⟨hj, ej⟩ := List.getElem?_eq_some_iff.mp hx
  have e1 : rs = rs.take i ++ r :: rs.drop (i + 1) := by
    rw [← ei, List.getElem_cons_drop, List.take_append_drop]
  have e2 : r = r.take j ++ x :: r.drop (j + 1) := by
    rw [← ej, List.getElem_cons_drop, List.take_append_drop]
  rw [e1, List.flatten_append, List.flatten_cons] at hnd
  obtain ⟨_, h2, h3⟩ := List.nodup_append.mp hnd
  intro hm
  rcases List.mem_append.mp hm with q | q
  · exact h3 x q x (List.mem_append_left _ (List.mem_of_getElem? hx)) rfl
  · have h4 := (List.nodup_append.mp h2).1
    rw [e2] at h4
    have h5 := (List.nodup_append.mp h4).2.2
    exact h5 x q x List.mem_cons_self rfl
theorem nxt_get {r : List Nat} {j x y : Nat} (hx : r[j]? = some x) (hy : (rot r)[j]? = some y) : (nxt r)[j]? = some (x, y) := by
  unfold nxt
  rw [List.getElem?_zip_eq_some]
  exact ⟨hx, hy⟩
theorem take_snoc {α : Type} {l : List α} {j : Nat} {x : α} (h : l[j]? = some x) : l.take (j + 1) = l.take j ++ [x] := by
  rw [List.take_add_one, h]
  rfl
theorem pairs_follow {f : Nat → Nat} : ∀ {rs : List (List Nat)}, (∀ r ∈ rs, Follows f r) → pairs rs = graph f rs.flatten
  | [], _ => rfl
  | r :: rs, h => by
    show nxt r ++ pairs rs = graph f (r ++ rs.flatten)
    rw [graph_append, pairs_follow fun q hq => h q (List.mem_cons_of_mem _ hq), h r List.mem_cons_self]
end TW

namespace TW
/-! ### sorted keys -/
theorem perm_nat {ys : List Int} {ks : List Nat} (h : ys.Perm (ks.map fun (k : Nat) => (k : Int))) (hs : ys.Pairwise (· ≤ ·)) (hn : ks.Nodup) :
    ∃ zs : List Nat, ys = zs.map (fun (k : Nat) => (k : Int)) ∧ zs.Perm ks ∧ zs.Pairwise (· < ·) := by
  have hnn : ∀ y ∈ ys, 0 ≤ y := fun y hy => by
    obtain ⟨k, _, rfl⟩ := List.mem_map.mp (h.mem_iff.mp hy)
    omega
  have e : ys = (ys.map Int.toNat).map (fun (k : Nat) => (k : Int)) := by
    rw [List.map_map]
    have : ∀ l : List Int, (∀ y ∈ l, 0 ≤ y) → l = l.map ((fun (k : Nat) => (k : Int)) ∘ Int.toNat) := by
      intro l
      induction l with
      | nil => intro _; rfl
      | cons a l ih =>
        intro hl
        have h1 := hl a List.mem_cons_self
        have h2 := ih fun y hy => hl y (List.mem_cons_of_mem _ hy)
        rw [List.map_cons, ← h2]
        congr 1
        show a = ((a.toNat : Nat) : Int)
        omega
    exact this ys hnn
  have hp : (ys.map Int.toNat).Perm ks := by
    have := h.map Int.toNat
    rw [List.map_map] at this
    have e2 : ks.map (Int.toNat ∘ fun (k : Nat) => (k : Int)) = ks := by
      rw [show (Int.toNat ∘ fun (k : Nat) => (k : Int)) = id from funext fun k => by show ((k : Int)).toNat = k; omega]
      exact List.map_id ks
    rw [e2] at this
    exact this
  refine ⟨ys.map Int.toNat, e, hp, ?_⟩
  have nd : (ys.map Int.toNat).Nodup := hp.nodup_iff.mpr hn
  rw [List.nodup_iff_pairwise_ne] at nd
  have hle : (ys.map Int.toNat).Pairwise (· ≤ ·) := by
    rw [List.pairwise_map]
    exact hs.imp fun h => Int.toNat_le_toNat h
  exact (hle.and nd).imp fun ⟨a, b⟩ => Nat.lt_of_le_of_ne a b
/-- a head's own test -/
def headB (f : Nat → Nat) (n p : Nat) : Bool := lead f n p && decide (f p ≠ p)
theorem headB_iff {f : Nat → Nat} {n p : Nat} : headB f n p = true ↔ lead f n p = true ∧ f p ≠ p := by
  unfold headB
  rw [Bool.and_eq_true, decide_eq_true_eq]
def ringsIn (f : Nat → Nat) (n : Nat) (zs : List Nat) : List (List Nat) := (zs.filter (headB f n)).map (ring f n)
theorem ringsIn_more {f : Nat → Nat} {n : Nat} {zs : List Nat} {i y : Nat} (h : zs[i]? = some y) (hb : headB f n y = true) : ringsIn f n (zs.take (i + 1)) = ringsIn f n (zs.take i) ++ [ring f n y] := by
  unfold ringsIn
  rw [take_snoc h, List.filter_append, List.map_append, List.filter_cons_of_pos hb]
  rfl
theorem ringsIn_stay {f : Nat → Nat} {n : Nat} {zs : List Nat} {i y : Nat} (h : zs[i]? = some y) (hb : headB f n y = false) : ringsIn f n (zs.take (i + 1)) = ringsIn f n (zs.take i) := by
  unfold ringsIn
  rw [take_snoc h, List.filter_append, List.filter_cons_of_neg (by rw [hb]; simp), List.filter_nil, List.append_nil]
theorem ringsIn_len (f : Nat → Nat) (n : Nat) (zs : List Nat) : (ringsIn f n zs).length ≤ zs.length := by
  unfold ringsIn
  rw [List.length_map]
  exact List.length_filter_le _ _
theorem ringsIn_all {f : Nat → Nat} {n : Nat} {zs : List Nat} (hs : zs.Pairwise (· < ·)) (hlt : ∀ y ∈ zs, y < n) (hall : ∀ x, x < n → f x ≠ x → x ∈ zs) : ringsIn f n zs = rings f n := by
  unfold ringsIn rings ringsTo
  exact congrArg (List.map (ring f n)) (heads_of hs hlt hall)
/-- who is marked when the places zs.take i have been looked at -/
def Marked (f : Nat → Nat) (n : Nat) (zs : List Nat) (x : Nat) : Prop := ∃ q ∈ zs, headB f n q = true ∧ x ∈ ring f n q ∧ x ≠ q
section
variable {f : Nat → Nat} {n : Nat} (P : PermF f n) {zs : List Nat} (hs : zs.Pairwise (· < ·)) (hlt : ∀ y ∈ zs, y < n) (hall : ∀ x, x < n → f x ≠ x → x ∈ zs) {i y : Nat} (hy : zs[i]? = some y)
include P hs hlt hall hy
theorem mem_take_of_lt {q : Nat} (hq : q ∈ zs) (hl : q < y) : q ∈ zs.take i := by
  obtain ⟨hi, ey⟩ := List.getElem?_eq_some_iff.mp hy
  obtain ⟨j, hj, e⟩ := List.mem_iff_getElem.mp hq
  rw [List.mem_take_iff_getElem]
  have hji : j < i := by
    rcases Nat.lt_trichotomy j i with c | c | c
    · exact c
    · subst c; rw [e] at ey; omega
    · have := (List.pairwise_iff_getElem.mp hs) i j hi hj c
      rw [ey, e] at this
      omega
  exact ⟨j, by omega, e⟩
theorem lt_of_mem_take {q : Nat} (hq : q ∈ zs.take i) : q < y := by
  obtain ⟨hi, ey⟩ := List.getElem?_eq_some_iff.mp hy
  obtain ⟨j, hj, e⟩ := List.mem_take_iff_getElem.mp hq
  have hj' : j < i := by omega
  have := (List.pairwise_iff_getElem.mp hs) j i (by omega) hi hj'
  rw [ey, e] at this
  exact this
/-- marked just if no leader -/
theorem marked_iff : Marked f n (zs.take i) y ↔ lead f n y = false := by
  have hyn : y < n := hlt y (List.mem_of_getElem? hy)
  constructor
  · rintro ⟨q, hq, hb, hm, hne⟩
    have hqn : q < n := hlt q (List.mem_of_mem_take hq)
    exact (not_lead_iff P hyn).mpr ⟨q, lt_of_mem_take P hs hlt hall hy hq, (headB_iff.mp hb).1, hm⟩
  · intro h
    obtain ⟨q, hq, lq, hm⟩ := (not_lead_iff P hyn).mp h
    have hqn : q < n := by omega
    have hfq : f q ≠ q := fun e => by
      have o := (per_one P hqn).mpr e
      have l : ring f n q = [q] := by unfold ring; rw [o]; rfl
      rw [l] at hm
      have := List.mem_singleton.mp hm
      omega
    exact ⟨q, mem_take_of_lt P hs hlt hall hy (hall q hqn hfq) hq, headB_iff.mpr ⟨lq, hfq⟩, hm, by omega⟩
end
theorem marked_stay {f : Nat → Nat} {n : Nat} {zs : List Nat} {i y : Nat} (hy : zs[i]? = some y) (hb : headB f n y = false) (x : Nat) : Marked f n (zs.take (i + 1)) x ↔ Marked f n (zs.take i) x := by
  unfold Marked
  rw [take_snoc hy]
  constructor
  · rintro ⟨q, hq, h1, h2⟩
    rcases List.mem_append.mp hq with h | h
    · exact ⟨q, h, h1, h2⟩
    · rw [List.mem_singleton.mp h, hb] at h1; cases h1
  · rintro ⟨q, hq, h⟩
    exact ⟨q, List.mem_append_left _ hq, h⟩
theorem marked_more {f : Nat → Nat} {n : Nat} {zs : List Nat} {i y : Nat} (hy : zs[i]? = some y) (hb : headB f n y = true) (x : Nat) : Marked f n (zs.take (i + 1)) x ↔ Marked f n (zs.take i) x ∨ (x ∈ ring f n y ∧ x ≠ y) := by
  unfold Marked
  rw [take_snoc hy]
  constructor
  · rintro ⟨q, hq, h1, h2⟩
    rcases List.mem_append.mp hq with h | h
    · exact .inl ⟨q, h, h1, h2⟩
    · rw [List.mem_singleton.mp h] at h2; exact .inr h2
  · rintro (⟨q, hq, h⟩ | h)
    · exact ⟨q, List.mem_append_left _ hq, h⟩
    · exact ⟨y, List.mem_append_right _ List.mem_cons_self, hb, h⟩
/-- the ring but its first place -/
theorem ring_tail {f : Nat → Nat} {n : Nat} (P : PermF f n) {p x : Nat} (hp : p < n) : (x ∈ ring f n p ∧ x ≠ p) ↔ ∃ k, 1 ≤ k ∧ k < per f n p ∧ x = it f k p := by
  constructor
  · rintro ⟨h, hne⟩
    obtain ⟨k, hk, e⟩ := List.mem_map.mp h
    have hk' := List.mem_range.mp hk
    have e : it f k p = x := e
    refine ⟨k, ?_, hk', e.symm⟩
    rcases Nat.eq_zero_or_pos k with c | c
    · subst c; exact absurd e.symm hne
    · exact c
  · rintro ⟨k, k1, k2, rfl⟩
    exact ⟨(mem_ring P hp).mpr ⟨k, rfl⟩, (per_spec P hp).2.2.2 k k1 k2⟩
end TW

namespace TW
/-! ### a list's own map -/
theorem isPerm_of_graph {n : Nat} {f : Nat → Nat} (P : PermF f n) : IsPerm ((List.range n).map f) := by
  refine ⟨?_, ?_⟩
  · rw [List.nodup_iff_pairwise_ne, List.pairwise_map]
    refine List.Pairwise.imp_of_mem ?_ (List.pairwise_lt_range (n := n))
    intro a b ha hb hab e
    have := P.inj a b (List.mem_range.mp ha) (List.mem_range.mp hb) e
    omega
  · intro x hx
    rw [List.length_map, List.length_range]
    obtain ⟨k, hk, rfl⟩ := List.mem_map.mp hx
    exact P.lt _ (List.mem_range.mp hk)
theorem rings_stay {f : Nat → Nat} {n : Nat} (P : PermF f n) {x : Nat} (hx : x < n) (h : x ∉ (rings f n).flatten) : f x = x := by
  by_cases c : f x = x
  · exact c
  · exact absurd (rings_all P hx c) h
theorem sum_le : ∀ {rs : List (List Nat)}, (rs.map List.length).sum = rs.flatten.length
  | [] => rfl
  | r :: rs => by rw [List.map_cons, List.sum_cons, List.flatten_cons, List.length_append, sum_le (rs := rs)]
theorem rings_total {f : Nat → Nat} {n : Nat} (P : PermF f n) : (rings f n).flatten.length ≤ n := nodup_le n _ (rings_nodup P) fun _ h => rings_lt P h
/-- the least common multiple of the lengths -/
def lcmTo (rs : List (List Nat)) : Nat := rs.foldl (fun l r => Nat.lcm l r.length) 1
theorem lcmTo_snoc {rs : List (List Nat)} {i : Nat} {r : List Nat} (h : rs[i]? = some r) : lcmTo (rs.take (i + 1)) = Nat.lcm (lcmTo (rs.take i)) r.length := by
  unfold lcmTo
  rw [take_snoc h, List.foldl_append]
  rfl
theorem lcm_le {a b : Nat} : Nat.lcm a b ≤ a * b := Nat.div_le_self _ _
theorem lcm_fold_le : ∀ (rs : List (List Nat)) (a : Nat), rs.foldl (fun l r => Nat.lcm l r.length) a ≤ a * 2 ^ (rs.map List.length).sum
  | [], a => by simp
  | r :: rs, a => by
    show rs.foldl _ (Nat.lcm a r.length) ≤ _
    refine Nat.le_trans (lcm_fold_le rs _) ?_
    rw [List.map_cons, List.sum_cons, Nat.pow_add, ← Nat.mul_assoc]
    exact Nat.mul_le_mul_right _ (Nat.le_trans lcm_le (Nat.mul_le_mul_left a (Nat.le_of_lt Nat.lt_two_pow_self)))
theorem lcmTo_lt {f : Nat → Nat} {n : Nat} (P : PermF f n) (hn : n ≤ 60) (i : Nat) : lcmTo ((rings f n).take i) < 2 ^ 64 := by
  refine Nat.lt_of_le_of_lt (lcm_fold_le _ 1) ?_
  have h1 : (((rings f n).take i).map List.length).sum ≤ n := by
    rw [sum_le]
    have h : (rings f n).flatten = ((rings f n).take i).flatten ++ ((rings f n).drop i).flatten := by rw [← List.flatten_append, List.take_append_drop]
    have := rings_total P
    rw [h, List.length_append] at this
    omega
  rw [Nat.one_mul]
  exact Nat.lt_of_le_of_lt (Nat.pow_le_pow_right (by decide) (Nat.le_trans h1 hn)) (by decide)
theorem lcmTo_pos {rs : List (List Nat)} (h : ∀ r ∈ rs, r ≠ []) : 0 < lcmTo rs := by
  unfold lcmTo
  have : ∀ (rs : List (List Nat)) (a : Nat), 0 < a → (∀ r ∈ rs, r ≠ []) → 0 < rs.foldl (fun l r => Nat.lcm l r.length) a := by
    intro rs
    induction rs with
    | nil => intro a ha _; exact ha
    | cons r rs ih =>
      intro a ha hr
      refine ih _ (Nat.lcm_pos ha ?_) fun q hq => hr q (List.mem_cons_of_mem _ hq)
      exact List.length_pos_iff.mpr (hr r List.mem_cons_self)
  exact this rs 1 (by decide) h
end TW

namespace TW
/-! ### swapping -/
theorem map_set (g : Nat → Nat) (n a v : Nat) : ((List.range n).map g).set a v = (List.range n).map fun x => if x = a then v else g x := by
  apply List.ext_getElem?
  intro i
  rw [List.getElem?_set, List.getElem?_map, List.getElem?_map, List.length_map, List.length_range]
  by_cases hi : i < n
  · rw [List.getElem?_range hi]
    by_cases c : a = i
    · subst c
      rw [if_pos rfl, if_pos hi]
      simp
    · rw [if_neg c]
      simp [Ne.symm c]
  · rw [List.getElem?_eq_none (show (List.range n).length ≤ i by rw [List.length_range]; omega)]
    by_cases c : a = i
    · rw [if_pos c, if_neg (by omega)]; rfl
    · rw [if_neg c]; rfl
/-- g swaps places; it stays where the drawn places from 2 i on are -/
structure Swp (mx : List Nat) (n i : Nat) (g : Nat → Nat) : Prop where
  lt : ∀ x, x < n → g x < n
  inv : ∀ x, x < n → g (g x) = x
  rest : ∀ x ∈ mx.drop (2 * i), g x = x
def swp (g : Nat → Nat) (a b : Nat) : Nat → Nat := fun x => if x = b then a else if x = a then b else g x
theorem Swp.start {mx : List Nat} {n : Nat} : Swp mx n 0 id := ⟨fun _ h => h, fun _ _ => rfl, fun _ _ => rfl⟩
theorem Swp.more {mx : List Nat} {n i a b : Nat} {g : Nat → Nat} (S : Swp mx n i g) (hm : IsPerm mx) (hl : mx.length = n) (ha : mx[2 * i]? = some a) (hb : mx[2 * i + 1]? = some b) : Swp mx n (i + 1) (swp g a b) := by
  obtain ⟨h1, e1⟩ := List.getElem?_eq_some_iff.mp ha
  obtain ⟨h2, e2⟩ := List.getElem?_eq_some_iff.mp hb
  have han : a < n := by rw [← hl]; exact hm.lt a (List.mem_of_getElem? ha)
  have hbn : b < n := by rw [← hl]; exact hm.lt b (List.mem_of_getElem? hb)
  have hab : a ≠ b := fun e => by
    rw [← e1, ← e2] at e
    have := (List.getElem_inj hm.nd).mp e
    omega
  have mem : ∀ j x, mx[j]? = some x → 2 * i ≤ j → x ∈ mx.drop (2 * i) := fun j x hx hj => by
    refine List.mem_of_getElem? (i := j - 2 * i) ?_
    rw [List.getElem?_drop, show 2 * i + (j - 2 * i) = j by omega]
    exact hx
  have ga : g a = a := S.rest a (mem _ _ ha (by omega))
  have gb : g b = b := S.rest b (mem _ _ hb (by omega))
  have gne : ∀ x, x < n → x ≠ a → x ≠ b → g x ≠ a ∧ g x ≠ b := fun x hx hxa hxb =>
    ⟨fun e => hxa (by have := S.inv x hx; rw [e, ga] at this; exact this.symm), fun e => hxb (by have := S.inv x hx; rw [e, gb] at this; exact this.symm)⟩
  refine ⟨fun x hx => ?_, fun x hx => ?_, fun x hx => ?_⟩
  · unfold swp
    split
    · exact han
    · split
      · exact hbn
      · exact S.lt x hx
  · unfold swp
    by_cases c1 : x = b
    · subst c1
      rw [if_pos rfl, if_neg hab, if_pos rfl]
    · rw [if_neg c1]
      by_cases c2 : x = a
      · subst c2
        rw [if_pos rfl, if_pos rfl]
      · obtain ⟨n1, n2⟩ := gne x hx c2 c1
        rw [if_neg c2, if_neg n2, if_neg n1]
        exact S.inv x hx
  · obtain ⟨j, hj⟩ := List.mem_iff_getElem?.mp hx
    rw [List.getElem?_drop] at hj
    have hx' : mx[2 * (i + 1) + j]? = some x := hj
    obtain ⟨h3, e3⟩ := List.getElem?_eq_some_iff.mp hx'
    have n1 : x ≠ a := fun e => by
      rw [← e3, ← e1] at e
      have := (List.getElem_inj hm.nd).mp e
      omega
    have n2 : x ≠ b := fun e => by
      rw [← e3, ← e2] at e
      have := (List.getElem_inj hm.nd).mp e
      omega
    unfold swp
    rw [if_neg n2, if_neg n1]
    exact S.rest x (mem _ _ hx' (by omega))
theorem Swp.perm {mx : List Nat} {n i : Nat} {g : Nat → Nat} (S : Swp mx n i g) : PermF g n := ⟨S.lt, fun x y hx hy e => by rw [← S.inv x hx, ← S.inv y hy, e]⟩
theorem swp_list (g : Nat → Nat) (n a b : Nat) : (((List.range n).map g).set a b).set b a = (List.range n).map (swp g a b) := by
  rw [map_set, map_set]
  rfl
/-- all places are led back -/
def swB (im : List Nat) : Bool := (List.range im.length).all fun p => decide (ap im (ap im p) = p)
def mvB (im : List Nat) : Bool := (List.range im.length).all fun p => decide (ap im p ≠ p)
/-! ### the least multiple -/
theorem lcm_of_le {a b k : Nat} (ha : 0 < a) (h : b ∣ k * a) (hk : 0 < k) (hmin : ∀ j, 0 < j → j < k → ¬ b ∣ j * a) : k * a = Nat.lcm a b := by
  have h1 : Nat.lcm a b ∣ k * a := Nat.lcm_dvd (Nat.dvd_mul_left a k) h
  obtain ⟨c, hc⟩ := Nat.dvd_lcm_left a b
  have hb : 0 < b := by
    rcases Nat.eq_zero_or_pos b with z | z
    · subst z
      have := Nat.eq_zero_of_zero_dvd h
      have := Nat.mul_pos hk ha
      omega
    · exact z
  have hl : 0 < Nat.lcm a b := Nat.lcm_pos ha hb
  have hcpos : 0 < c := by
    rcases Nat.eq_zero_or_pos c with z | z
    · rw [z, Nat.mul_zero] at hc; omega
    · exact z
  have hck : c ≤ k := by
    have := Nat.le_of_dvd (Nat.mul_pos hk ha) h1
    rw [hc, Nat.mul_comm a c] at this
    exact Nat.le_of_mul_le_mul_right this ha
  rcases Nat.lt_or_ge c k with z | z
  · exfalso
    refine hmin c hcpos z ?_
    rw [Nat.mul_comm, ← hc]
    exact Nat.dvd_lcm_right a b
  · have : k = c := by omega
    rw [this, Nat.mul_comm, ← hc]
end TW

namespace TW
/-! ### powers, of either sign -/
/-- g is f's way back below n -/
structure BackF (f g : Nat → Nat) (n : Nat) : Prop where
  lt : ∀ y, y < n → g y < n
  eq : ∀ y, y < n → f (g y) = y
def zit (f g : Nat → Nat) (k : Int) (x : Nat) : Nat := if 0 ≤ k then it f k.toNat x else it g k.natAbs x
theorem BackF.it_lt {f g : Nat → Nat} {n : Nat} (B : BackF f g n) (k : Nat) {x : Nat} (h : x < n) : it g k x < n := by
  induction k with
  | zero => exact h
  | succ k ih => exact B.lt _ ih
theorem BackF.it_eq {f g : Nat → Nat} {n : Nat} (B : BackF f g n) : ∀ (k : Nat) {x : Nat}, x < n → it f k (it g k x) = x
  | 0, x, _ => rfl
  | k + 1, x, h => by
    rw [it_succ' f]
    show it f k (f (g (it g k x))) = x
    rw [B.eq _ (B.it_lt k h)]
    exact B.it_eq k h
theorem zit_lt {f g : Nat → Nat} {n : Nat} (P : PermF f n) (B : BackF f g n) (k : Int) {x : Nat} (h : x < n) : zit f g k x < n := by
  unfold zit
  by_cases c : 0 ≤ k
  · rw [if_pos c]; exact P.it_lt _ h
  · rw [if_neg c]; exact B.it_lt _ h
theorem zit_perm {f g : Nat → Nat} {n : Nat} (P : PermF f n) (B : BackF f g n) (k : Int) : PermF (zit f g k) n where
  lt x h := zit_lt P B k h
  inj x y hx hy e := by
    unfold zit at e
    by_cases c : 0 ≤ k
    · rw [if_pos c, if_pos c] at e
      exact P.it_inj _ hx hy e
    · rw [if_neg c, if_neg c] at e
      have := congrArg (it f k.natAbs) e
      rw [B.it_eq _ hx, B.it_eq _ hy] at this
      exact this
theorem it_fix {f : Nat → Nat} {x : Nat} (h : f x = x) : ∀ k, it f k x = x
  | 0 => rfl
  | k + 1 => by show f (it f k x) = x; rw [it_fix h k, h]
theorem zit_fix {f g : Nat → Nat} {n : Nat} (P : PermF f n) (B : BackF f g n) (k : Int) {x : Nat} (hx : x < n) (h : f x = x) : zit f g k x = x := by
  unfold zit
  by_cases c : 0 ≤ k
  · rw [if_pos c, it_fix h]
  · rw [if_neg c]
    refine it_fix (P.inj _ _ (B.lt _ hx) hx ?_) _
    rw [B.eq _ hx, h]
/-- a place's way along its ring -/
theorem ring_shift {f g : Nat → Nat} {n p : Nat} (P : PermF f n) (B : BackF f g n) (hp : p < n) (k : Int) (a : Nat) : it f (((a : Int) + k) % (per f n p : Nat)).toNat p = zit f g k (it f a p) := by
  have L0 : 0 < per f n p := (per_spec P hp).1
  have nn := Int.emod_nonneg ((a : Int) + k) (show ((per f n p : Nat) : Int) ≠ 0 by omega)
  unfold zit
  by_cases c : 0 ≤ k
  · rw [if_pos c, ← it_add]
    rw [per_mod P hp (k.toNat + a)]
    congr 1
    have e : (a : Int) + k = ((k.toNat + a : Nat) : Int) := by omega
    rw [e, ← Int.natCast_emod, Int.toNat_natCast]
  · rw [if_neg c]
    refine P.it_inj k.natAbs (P.it_lt _ hp) (B.it_lt _ (P.it_lt _ hp)) ?_
    rw [B.it_eq _ (P.it_lt _ hp), ← it_add, per_mod P hp, per_mod P hp a]
    congr 1
    have e1 : ((k.natAbs + (((a : Int) + k) % (per f n p : Nat)).toNat : Nat) : Int) = k.natAbs + ((a : Int) + k) % (per f n p : Nat) := by omega
    have e2 : (((k.natAbs + (((a : Int) + k) % (per f n p : Nat)).toNat) % per f n p : Nat) : Int) = ((a % per f n p : Nat) : Int) := by
      rw [Int.natCast_emod, e1, Int.natCast_emod, Int.add_emod_emod]
      congr 1
      omega
    exact Int.ofNat.inj e2
/-! ### the list of the way back -/
def backL (im : List Nat) : List Nat := (List.range im.length).map fun y => im.idxOf y
theorem perm_mem {im : List Nat} (h : IsPerm im) {y : Nat} (hy : y < im.length) : y ∈ im := by
  apply Classical.byContradiction
  intro hn
  have : (y :: im).Nodup := List.nodup_cons.mpr ⟨hn, h.nd⟩
  have := nodup_le im.length (y :: im) this (fun x hx => by
    rcases List.mem_cons.mp hx with e | e
    · rw [e]; exact hy
    · exact h.lt _ e)
  rw [List.length_cons] at this
  omega
theorem ap_map {n : Nat} {f : Nat → Nat} {x : Nat} (h : x < n) : ap ((List.range n).map f) x = f x := by
  unfold ap
  rw [List.getD_eq_getElem?_getD, List.getElem?_map, List.getElem?_range h]
  rfl
theorem back_back {im : List Nat} (h : IsPerm im) : BackF (ap im) (ap (backL im)) im.length where
  lt y hy := by
    unfold backL
    rw [ap_map hy]
    exact List.idxOf_lt_length_of_mem (perm_mem h hy)
  eq y hy := by
    unfold backL
    rw [ap_map hy]
    have hl := List.idxOf_lt_length_of_mem (perm_mem h hy)
    have := ap_get hl
    rw [List.getElem?_eq_getElem hl, List.getElem_idxOf] at this
    exact (Option.some.inj this).symm
theorem backL_len (im : List Nat) : (backL im).length = im.length := by unfold backL; rw [List.length_map, List.length_range]
theorem back_unique {f g h : Nat → Nat} {n : Nat} (P : PermF f n) (B : BackF f g n) (hl : ∀ y, y < n → h y < n) (he : ∀ y, y < n → f (h y) = y) {y : Nat} (hy : y < n) : h y = g y :=
  P.inj _ _ (hl y hy) (B.lt y hy) (by rw [he y hy, B.eq y hy])
/-- one behind the other -/
def behind (im jm : List Nat) : List Nat := im.map (ap jm)
theorem behind_len (im jm : List Nat) : (behind im jm).length = im.length := List.length_map _
theorem behind_eq (im jm : List Nat) : behind im jm = (List.range im.length).map fun x => ap jm (ap im x) := by
  have e := im_eq im
  unfold behind
  conv => lhs; rw [← e]
  rw [List.map_map]
  rfl
theorem behind_perm {im jm : List Nat} (h : IsPerm im) (j : IsPerm jm) (e : jm.length = im.length) : IsPerm (behind im jm) := by
  rw [behind_eq]
  refine isPerm_of_graph ⟨fun x hx => ?_, fun x y hx hy z => ?_⟩
  · have := j.perm.lt _ (show ap im x < jm.length by rw [e]; exact h.perm.lt x hx)
    rw [e] at this
    exact this
  · exact h.perm.inj _ _ hx hy (j.perm.inj _ _ (by rw [e]; exact h.perm.lt x hx) (by rw [e]; exact h.perm.lt y hy) z)
/-- the power of a map -/
def timesL (im : List Nat) (k : Int) : List Nat := (List.range im.length).map (zit (ap im) (ap (backL im)) k)
theorem timesL_len (im : List Nat) (k : Int) : (timesL im k).length = im.length := by unfold timesL; rw [List.length_map, List.length_range]
theorem timesL_perm {im : List Nat} (h : IsPerm im) (k : Int) : IsPerm (timesL im k) := isPerm_of_graph (zit_perm h.perm (back_back h) k)
theorem timesL_zero (im : List Nat) : timesL im 0 = List.range im.length := by
  unfold timesL zit
  apply List.ext_getElem?
  intro i
  rw [List.getElem?_map]
  by_cases c : i < im.length
  · rw [List.getElem?_range c]; rfl
  · rw [List.getElem?_eq_none (by rw [List.length_range]; omega)]; rfl
theorem timesL_one (im : List Nat) : timesL im 1 = im := by
  have e := im_eq im
  conv => rhs; rw [← e]
  rfl
theorem timesL_back {im : List Nat} (h : IsPerm im) : timesL im (-1) = backL im := by
  have e := im_eq (backL im)
  rw [backL_len] at e
  conv => rhs; rw [← e]
  rfl
end TW

namespace TW
/-! ### rings begun elsewhere -/
def rotl (r : List Nat) (t : Nat) : List Nat := r.drop t ++ r.take t
theorem rotl_len (r : List Nat) (t : Nat) : (rotl r t).length = r.length := by
  unfold rotl
  rw [List.length_append, List.length_drop, List.length_take]
  omega
theorem rotl_get {r : List Nat} {t i : Nat} (ht : t ≤ r.length) (hi : i < r.length) : (rotl r t)[i]? = r[(i + t) % r.length]? := by
  unfold rotl
  by_cases c : i + t < r.length
  · rw [List.getElem?_append_left (by rw [List.length_drop]; omega), List.getElem?_drop, Nat.mod_eq_of_lt c, Nat.add_comm]
  · rw [List.getElem?_append_right (by rw [List.length_drop]; omega), List.length_drop, List.getElem?_take_of_lt (by omega)]
    have e : (i + t) % r.length = i + t - r.length := by
      rw [Nat.mod_eq_sub_mod (by omega), Nat.mod_eq_of_lt (by omega)]
    rw [e]
    congr 1
    omega
theorem follows_rotl {f : Nat → Nat} {r : List Nat} {t : Nat} (h : Follows f r) (ht : t ≤ r.length) : Follows f (rotl r t) := by
  have h' := follows_iff.mp h
  refine follows_iff.mpr ?_
  show rotl (rotl r t) 1 = _
  apply List.ext_getElem?
  intro i
  by_cases c : i < r.length
  · have L : 0 < r.length := by omega
    have a : (rotl (rotl r t) 1)[i]? = r[((i + t) % r.length + 1) % r.length]? := by
      rw [rotl_get (by rw [rotl_len]; omega) (by rw [rotl_len]; exact c), rotl_len, rotl_get ht (Nat.mod_lt _ L)]
      congr 1
      rw [Nat.mod_add_mod, Nat.mod_add_mod]
      congr 1
      omega
    have b := congrArg (fun l => l[(i + t) % r.length]?) h'
    have b' : (rotl r 1)[(i + t) % r.length]? = (r.map f)[(i + t) % r.length]? := b
    rw [rotl_get (by omega) (Nat.mod_lt _ L)] at b'
    rw [a, b', List.getElem?_map, List.getElem?_map, rotl_get ht c]
  · rw [List.getElem?_eq_none (by rw [rotl_len, rotl_len]; omega), List.getElem?_eq_none (by rw [List.length_map, rotl_len]; omega)]
theorem rotl_perm (r : List Nat) (t : Nat) : (rotl r t).Perm r := by
  unfold rotl
  have : (r.drop t ++ r.take t).Perm (r.take t ++ r.drop t) := List.perm_append_comm
  rw [List.take_append_drop] at this
  exact this
theorem flatten_perm {rs ss : List (List Nat)} (h : rs.length = ss.length) (hp : ∀ (i : Nat) (r s : List Nat), rs[i]? = some r → ss[i]? = some s → r.Perm s) : rs.flatten.Perm ss.flatten := by
  induction rs generalizing ss with
  | nil =>
    cases ss with
    | nil => exact .nil
    | cons s ss => cases h
  | cons r rs ih =>
    cases ss with
    | nil => cases h
    | cons s ss =>
      rw [List.flatten_cons, List.flatten_cons]
      refine (hp 0 r s rfl rfl).append (ih (by simpa using h) fun i a b h1 h2 => hp (i + 1) a b ?_ ?_)
      · rw [List.getElem?_cons_succ]; exact h1
      · rw [List.getElem?_cons_succ]; exact h2
/-- the rings of one place -/
def singles (f : Nat → Nat) (n : Nat) : List (List Nat) := ((List.range n).filter fun x => decide (f x = x)).map fun x => [x]
theorem singles_flat (f : Nat → Nat) (n : Nat) : (singles f n).flatten = (List.range n).filter fun x => decide (f x = x) := by
  unfold singles
  generalize (List.range n).filter (fun x => decide (f x = x)) = l
  induction l with
  | nil => rfl
  | cons x l ih => rw [List.map_cons, List.flatten_cons, ih]; rfl
theorem follows_single {f : Nat → Nat} {x : Nat} (h : f x = x) : Follows f [x] := by
  refine follows_iff.mpr ?_
  show [x] = [f x]
  rw [h]
theorem mem_rings_moves {f : Nat → Nat} {n x : Nat} (P : PermF f n) (h : x ∈ (rings f n).flatten) : f x ≠ x := by
  obtain ⟨r, hr, hx⟩ := List.mem_flatten.mp h
  obtain ⟨p, hp, rfl⟩ := List.mem_map.mp hr
  have hp' := mem_heads.mp hp
  obtain ⟨k, hk⟩ := (mem_ring P hp'.1).mp hx
  intro e
  have h2 : it f k (f p) = it f k p := by rw [← it_succ' f, show it f (k + 1) p = f (it f k p) from rfl, hk, e]
  exact hp'.2.2 (P.it_inj k (P.lt _ hp'.1) hp'.1 h2)
end TW

namespace TW
open PySem PySem.Spec PyProof.Rows L2
/-! ### dict(enumerate(list)) -/
/-- the places from k on, to the values -/
def enumKV : Nat → List V → List (Key × V)
  | _, [] => []
  | k, x :: xs => (Sum.inl (k : Int), x) :: enumKV (k + 1) xs
theorem enumKV_get : ∀ (xs : List V) (k i : Nat), (enumKV k xs)[i]? = (xs[i]?).map fun x => (Sum.inl ((k + i : Nat) : Int), x)
  | [], k, i => by simp [enumKV]
  | x :: xs, k, 0 => by simp [enumKV]
  | x :: xs, k, i + 1 => by
    show (enumKV (k + 1) xs)[i]? = _
    rw [enumKV_get xs (k + 1) i, show k + 1 + i = k + (i + 1) by omega]
    rfl
def enumKW : Nat → List Value → List (Key × Value)
  | _, [] => []
  | k, x :: xs => (Sum.inl (k : Int), x) :: enumKW (k + 1) xs
theorem enumKW_len : ∀ (xs : List Value) (k : Nat), (enumKW k xs).length = xs.length
  | [], _ => rfl
  | _ :: xs, k => congrArg Nat.succ (enumKW_len xs (k + 1))
theorem enumKW_get : ∀ (xs : List Value) (k i : Nat), (enumKW k xs)[i]? = (xs[i]?).map fun x => (Sum.inl ((k + i : Nat) : Int), x)
  | [], k, i => by simp [enumKW]
  | x :: xs, k, 0 => by simp [enumKW]
  | x :: xs, k, i + 1 => by
    show (enumKW (k + 1) xs)[i]? = _
    rw [enumKW_get xs (k + 1) i, show k + 1 + i = k + (i + 1) by omega]
    rfl
theorem enumK_rel : ∀ {xs : List V} {us : List Value} (k : Nat), Vals xs us → KV (enumKV k xs) (enumKW k us)
  | _, _, _, .nil => .nil
  | _, _, k, .cons r t => .cons ⟨rfl, r⟩ (enumK_rel (k + 1) t)
section
variable {X : Cx}
def tDictEnum (K : PySem.W.Frag) (ta : TE) : TE := fun σ H Q => ta σ H fun x H1 => ∃ a xs, x = .ref a ∧ SqL K H1 a xs ∧ ∀ p, H1 p = none → Q (.ref p) (upd H1 p (.dK (mergeK [] (enumKV 0 xs))))
theorem pe_dictEnum {e : Expr} {ta : TE} {p p2 pos pos2 : Pos} (hc : X.calm = true) (hg : Gl X "dict") (hm : X.mg "dict" = none) (hg2 : Gl X "enumerate") (hm2 : X.mg "enumerate" = none) (ha : PE X e ta)
    (n1 : starEach [.Call (.Name "enumerate" p2) [e] [] pos2] X.env = (false, eval (.Call (.Name "enumerate" p2) [e] [] pos2) X.env) :: starEach [] X.env := by rfl)
    (n2 : starEach [e] X.env = (false, eval e X.env) :: starEach [] X.env := by rfl) :
    PE X (.Call (.Name "dict" p) [.Call (.Name "enumerate" p2) [e] [] pos2] [] pos) (tDictEnum X.K ta) := by
  refine ⟨fun pins s σ H Q I h => ?_⟩
  refine Call_ (ld_blt I hg hm boot_dict (PyProof.Rows.callWith_type1 (args_cons ?_ n1) n1))
  refine Call_ (ld_blt I hg2 hm2 boot_enumerate (PyProof.Rows.callWith_type1 (one_arg ha I h (fun v s1 x H1 I1 r1 q1 => ?_) n2) n2))
  obtain ⟨a, xs, ex, hq, q⟩ := q1
  subst ex
  cases r1
  obtain ⟨its, rv, pl, hz⟩ := I1.list hq
  have hal : a < s1.heap.objs.size := by obtain ⟨_, q, _⟩ := pl.isList; exact Heap.lt_size q
  refine call_enumerate_list pl.isList fun h' he hit hsz hk => args_nil ?_
  have P := PySem.PairArg.enumerate (prog := X.prog) (w := X.w) (s1.heap.objs.size + 1) s1.heap.objs.size a (Nat.succ_ne_self _) (Nat.ne_of_lt (Nat.lt_succ_of_lt hal)) (Nat.ne_of_lt hal) its.toArray
  have I2 : Inv X pins σ H1 { s1 with heap := h' } := I1.kept (t' := s1.toks) hk
  refine PySem.call_dict_pairs (s := { s1 with heap := h' }) (knd := mixKind X.prog X.w) (kvs := enumKW 0 its) P (I.ok.hd hc) ⟨⟨_, he⟩, hit, pl.isList.at fun o q => hk _ o q⟩ ⟨?_, ?_⟩ ?_ ?_
  · rw [enumKW_len]; simp
  · rintro i key v ⟨⟨t, rfl⟩, hv⟩
    refine ⟨Sum.inl (i : Int), ?_, mixKind_int X.prog X.w _ _⟩
    rw [enumKW_get]
    have : its[i]? = some v := by simpa using hv
    rw [this, Nat.zero_add]
    rfl
  · simpa [← rv.length] using hz
  · intro h2 tk hd hk2
    have hbig : (h'.objs.size == sysModules) = false := beq_eq_false_iff_ne.mpr (Nat.ne_of_gt I2.big)
    have hlen : (mergeK [] (enumKV 0 xs)).length ≤ sizeLine := by
      refine Nat.le_trans (length_mergeK _ []) ?_
      rw [List.length_nil, Nat.zero_add, (enumK_rel 0 rv).length, enumKW_len, ← rv.length]
      exact hz
    have keep : ∀ b u, s1.heap.get? b = some u → h2.get? b = some u := fun b u e => by
      refine hk2 b u (fun hb => ?_) (hk b u e)
      have hbl := Heap.lt_size e
      have : b = s1.heap.objs.size + 1 ∨ b = s1.heap.objs.size := by simpa using hb
      rcases this with e' | e'
      · rw [e'] at hbl; exact absurd hbl (Nat.not_lt.mpr (Nat.le_succ _))
      · rw [e'] at hbl; exact absurd hbl (Nat.lt_irrefl _)
    have dk : ObjOk X.prog X.w (upd H1 h'.objs.size (.dK (mergeK [] (enumKV 0 xs)))) h2 h'.objs.size (.dK (mergeK [] (enumKV 0 xs))) :=
      ⟨hlen, hbig, merged [] (enumKW 0 its), KV.merge (enumK_rel 0 rv) .nil, hd⟩
    refine ⟨.ref h'.objs.size, _, I1.laid (t' := tk) keep (by omega) dk, rfl, q _ (I2.hok.fresh (Nat.le_refl _))⟩
end
end TW

namespace TW
open PySem PySem.Spec PyProof.Rows L2
section
variable {X : Cx}
/-- lcm(a, b) -/
def rLcm : List V → Hp → VK → Prop := fun vs H Q => ∃ a b : Nat, vs = [.int (a : Int), .int (b : Int)] ∧ a < 2 ^ 64 ∧ b < 2 ^ 64 ∧ Q (.int ((Nat.lcm a b : Nat) : Int)) H
theorem cr_lcm : CallR X (.builtin "math.lcm") rLcm := by
  intro pins s σ H vs us Q I r h
  obtain ⟨a, b, rfl, ha, hb, q⟩ := h
  obtain ⟨t, u, rfl⟩ := Vals.int2 r
  have e : (((Nat.lcm 1 (a : Int).natAbs).lcm (b : Int).natAbs : Nat) : Int) = ((Nat.lcm a b : Nat) : Int) := by
    rw [Int.natAbs_natCast, Int.natAbs_natCast, Nat.lcm_one_left]
  refine PySem.W.mg_lcm_v (by rw [Int.natAbs_natCast]; exact ha) (by rw [Int.natAbs_natCast]; exact hb) e ?_ ⟨.int _, H, I.tok _, ⟨_, rfl⟩, q⟩
  rw [Int.natAbs_natCast]
  have h1 : Nat.lcm a b < 2 ^ 128 := by
    refine Nat.lt_of_le_of_lt (Nat.div_le_self _ _) ?_
    calc a * b ≤ a * 2 ^ 64 := Nat.mul_le_mul_left _ (Nat.le_of_lt hb)
      _ < 2 ^ 64 * 2 ^ 64 := by omega
      _ = 2 ^ 128 := by decide
  rw [bitsLine_eq]
  by_cases z : Nat.lcm a b = 0
  · rw [z]; decide
  · exact Nat.lt_trans ((Nat.log2_lt z).mpr h1) (by decide)
end
/-! ### defs, methods, classes with their promises -/
section
variable (P : Program) (w : World) (K : PySem.W.Frag) (mg : Str → Option Value) (base : Heap)
/-- the def that the module's name x holds keeps sp; dvs: the defaults that fill up -/
def DefOk (CX : CXT) (k : Nat) (x : Str) (ps : List Str) (dvs : List V) (sp : Sp) : Prop :=
  ∃ (f : Addr) (fd : FuncData) (ds : List Value), mg x = some (.ref f) ∧ PySem.W.keepIn K (.ref f) = true ∧ Binds K fd ps ds ∧ Vals dvs ds ∧ FnOk P w K mg base CX k f fd ps sp
/-- the method m of the class at C -/
def MethOk (CX : CXT) (k : Nat) (C : Addr) (m : Str) (ps : List Str) (dvs : List V) (sp : Sp) : Prop :=
  ∃ (f : Addr) (fd : FuncData) (ds : List Value), Meth K C m f ∧ Binds K fd ps ds ∧ Vals dvs ds ∧ FnOk P w K mg base CX k f fd ps sp
/-- the class at C, by the module's name x, its __init__ -/
def MakeOk (CX : CXT) (k : Nat) (C : Addr) (x : Str) (ps : List Str) (dvs : List V) (sp : Sp) : Prop :=
  mg x = some (.ref C) ∧ ∃ (f : Addr) (fd : FuncData) (ds : List Value), Mk K C f ∧ Binds K fd ps ds ∧ Vals dvs ds ∧ FnOk P w K mg base CX k f fd ps sp
end
section
variable {X : Cx} {CX : CXT} {k k' : Nat} {ps : List Str} {sp : Sp} {dvs : List V} {E : XK} {x m : Str} {p pos apos : Pos} {e o : Expr} {es : List Expr} {ta : TE} {t : TA} {C : Addr}
theorem pe_d (D : DefOk X.prog X.w X.K X.mg X.base CX k x ps dvs sp) (hr : Room k' X.A) (hx : Passes CX X E) (ha : PA X (e :: es) t) (hk : k ≤ k' := by decide) (hg : Gl X x := by rfl) (hdb : (x == ("__debug__" : Str)) = false := by decide)
    (he : starEach (e :: es) X.env = (false, eval e X.env) :: starEach es X.env := by rfl) (hpl : (backTo pos (starEach es X.env)).any (·.1) = false := by rfl) :
    PE X (.Call (.Name x p) (e :: es) [] pos) (tCall sp dvs E t) := by
  obtain ⟨f, fd, ds, hm, kp, hb, hd, F⟩ := D
  exact pe_call F (hr.mono hk) hg hm kp hb hd hx ha hdb he hpl
theorem pe_m {pl : Sem Bool} (D : MethOk X.prog X.w X.K X.mg X.base CX k C m ps dvs sp) (c : Cls X.K C) (hr : Room k' X.A) (hx : Passes CX X E) (he : PE X o ta) (ha : PA X (e :: es) t) (hk : k ≤ k' := by decide)
    (hst : starEach (e :: es) X.env = (false, eval e X.env) :: starEach es X.env := by rfl) (hpl : (backTo pos (starEach es X.env)).any (·.1) = false := by rfl)
    (ht : eval (.Call (.Attribute o m apos) (e :: es) [] pos) X.env = (do
      let ov ← eval o X.env
      standAt apos.atName
      let (f, first) ← holding [ov] (getMethod ov m pl)
      callWith pos f first (backTo pos (starEach (e :: es) X.env)) (backToKw pos (keywordEach [] X.env))) := by rfl) :
    PE X (.Call (.Attribute o m apos) (e :: es) [] pos) (tMeth C m sp dvs E ta t) := by
  obtain ⟨f, fd, ds, hm, hb, hd, F⟩ := D
  exact pe_meth he c hm F (hr.mono hk) hb hd hx ha hst hpl ht
theorem pe_m0 {pl : Sem Bool} (D : MethOk X.prog X.w X.K X.mg X.base CX k C m ps dvs sp) (c : Cls X.K C) (hr : Room k' X.A) (hx : Passes CX X E) (he : PE X o ta) (hk : k ≤ k' := by decide)
    (ht : eval (.Call (.Attribute o m apos) [] [] pos) X.env = (do
      let ov ← eval o X.env
      standAt apos.atName
      let (f, first) ← holding [ov] (getMethod ov m pl)
      callWith pos f first (backTo pos (starEach [] X.env)) (backToKw pos (keywordEach [] X.env))) := by rfl) :
    PE X (.Call (.Attribute o m apos) [] [] pos) (tMeth C m sp dvs E ta tNil) := by
  obtain ⟨f, fd, ds, hm, hb, hd, F⟩ := D
  exact pe_meth0 he c hm F (hr.mono hk) hb hd hx ht
theorem pe_mk' (D : MakeOk X.prog X.w X.K X.mg X.base CX k C x ps dvs sp) (hr : Room k' X.A) (hx : Passes CX X E) (ha : PA X (e :: es) t) (hk : k + 1 ≤ k' := by decide) (hg : Gl X x := by rfl) (hdb : (x == ("__debug__" : Str)) = false := by decide)
    (he : starEach (e :: es) X.env = (false, eval e X.env) :: starEach es X.env := by rfl) (hpl : (backTo pos (starEach es X.env)).any (·.1) = false := by rfl) :
    PE X (.Call (.Name x p) (e :: es) [] pos) (tMake C sp dvs E t) := by
  obtain ⟨hm, f, fd, ds, M, hb, hd, F⟩ := D
  exact pe_make M F (hr.mono hk) hg hm hb hd hx ha hdb he hpl
end
end TW

namespace TW
open PySem PySem.Spec PyProof.Rows L2
/-! ### errors with one attribute, held as values -/
section
variable (P : Program) (w : World) (K : PySem.W.Frag) (mg : Str → Option Value) (base : Heap)
/-- what __init__ of such a class does: the attribute f is the second value -/
def spErr (C : Addr) (f : Str) : Sp := fun vs H Q _ => ∃ (a : Addr) (v : V), vs = [.ref a, v] ∧ H a = some (exo a C none) ∧ ∀ d, H d = none → d ≠ a → Q .non (upd (upd H d (exd d [(f, v)])) a (exo a C (some d)))
structure ErrC (C : Addr) : Prop where
  oex : OexC K C
  xf : XfC K C
  kc : ExcC K C
/-- the error class at C, by the module's name x; its attribute f -/
def ErrOk (CX : CXT) (k : Nat) (C : Addr) (x f p : Str) : Prop :=
  ErrC K C ∧ mg x = some (.ref C) ∧ ∃ (fI : Addr) (fd : FuncData), PySem.W.findIn K (.ref C) "__init__" = some (some (.ref fI)) ∧ PySem.W.typeIn K (.ref fI) = some (.type "function") ∧ Binds K fd ["self", p] [] ∧
    FnOk P w K mg base CX k fI fd ["self", p] (spErr C f)
end
section
variable {X : Cx} {CX : CXT} {k k' : Nat} {C : Addr} {x f q : Str} {e : Expr} {te : TE} {p pos : Pos}
def tErr (C : Addr) (f : Str) (te : TE) : TE := fun σ H Q => te σ H fun v H1 => ∀ (a d : Addr) (H' : Hp), Same H1 H' → H1 a = none → H1 d = none → H' a = some (exo a C (some d)) → H' d = some (exd d [(f, v)]) → Q (.ref a) H'
theorem pe_err (D : ErrOk X.prog X.w X.K X.mg X.base CX k C x f q) (hr : Room k' X.A) (hx : Passes CX X (fun _ _ _ => False)) (he : PE X e te) (hk : k + 1 ≤ k' := by decide) (hg : Gl X x := by rfl)
    (hdb : (x == ("__debug__" : Str)) = false := by decide) (hs : starEach [e] X.env = (false, eval e X.env) :: starEach [] X.env := by rfl) (hpl : (backTo pos (starEach [] X.env)).any (·.1) = false := by rfl) :
    PE X (.Call (.Name x p) [e] [] pos) (tErr C f te) := by
  obtain ⟨T, hm, fI, fd, iC, tI, hb, F1⟩ := D
  refine ⟨fun pins s σ H Q I h => ?_⟩
  obtain ⟨nm, q, N, bs, bm, sn, sub, ab, col, dd, k0, k1, k2, k3, k5, hC, hbm⟩ := T.oex.cls
  have hr1 := hr.mono hk
  refine wpAny_Call_Name_kw (ld_glob I hg hm ?_ hdb)
  refine PySem.W.callWith_K (h₀ := X.base) I.ok.mod.kin T.oex.kC ?_ hs hpl
  rw [hs]
  show wpAny _ _ (spliced ((false, eval e X.env) :: backTo pos (starEach [] X.env))) _ _ s
  refine Calls.spliced_cons (thn (he.run pins s σ H _ I h) fun u s1 ⟨v, H1, I1, r1, q1⟩ => ?_)
  refine Calls.spliced_nil ⟨I1.kIn, ?_⟩
  show wpAny _ _ (call (.ref C) [u]) _ _ _
  obtain ⟨hp, g, dr, tk, os⟩ := s1
  have hsz : hp.objs.size ≤ hp.objs.size + 1 := Nat.le_succ _
  have hn : H1 (hp.objs.size + 1) = none := I1.hok.fresh hsz
  have kk : ∀ b o, hp.get? b = some o → ((hp.push (PySem.W.kdv_tup [u])).push (PySem.HandSPX.excO C hp.objs.size)).get? b = some o := fun b o e => Heap.get?_push_of_some _ (Heap.get?_push_of_some _ e)
  have hget : ((hp.push (PySem.W.kdv_tup [u])).push (PySem.HandSPX.excO C hp.objs.size)).get? (hp.objs.size + 1) = some (PySem.HandSPX.excO C hp.objs.size) := by heap_get
  have I2 : Inv X pins σ (upd H1 (hp.objs.size + 1) (exo (hp.objs.size + 1) C none)) ⟨(hp.push (PySem.W.kdv_tup [u])).push (PySem.HandSPX.excO C hp.objs.size), g, dr, tk, os⟩ :=
    I1.laid (t' := tk) (a := hp.objs.size + 1) (o := exo (hp.objs.size + 1) C none) (h' := (hp.push (PySem.W.kdv_tup [u])).push (PySem.HandSPX.excO C hp.objs.size)) kk hsz (exo_ok hget)
  have r2 : Vals [V.ref (hp.objs.size + 1), v] [Value.ref (hp.objs.size + 1), u] := .cons rfl (.cons r1 .nil)
  have hus : [u].length ≤ sizeLine := by
    rw [sizeLine_eq]
    exact (by decide : 1 ≤ 16777216)
  have hsp : spErr C f [V.ref (hp.objs.size + 1), v] (upd H1 (hp.objs.size + 1) (exo (hp.objs.size + 1) C none))
      (fun v' H2 => v' = .non ∧ Q (.ref (hp.objs.size + 1)) H2) (fun _ _ _ => False) := by
    refine ⟨_, v, rfl, upd_same, fun d nd dne => ⟨rfl, ?_⟩⟩
    have nd1 : H1 d = none := by rw [upd_ne dne] at nd; exact nd
    refine q1 _ d _ ?_ hn nd1 upd_same (by rw [upd_ne dne, upd_same])
    intro b o hb
    rw [upd_ne (ne_of_none hb hn), upd_ne (ne_of_none hb nd1), upd_ne (ne_of_none hb hn)]
    exact hb
  refine wpAny_call (PySem.HandSPX.call_own F.excBase_ValueError (fun Y => PySem.HandSPX.refsVE_contains Y bm hbm) (I1.kIn _ _ hC) (PySem.W.looks_findIn I1.kIn iC) (fun self => PySem.W.bind_fn I1.kIn self tI) hus
    (codeAny_mono (F1.run _ X.stack _ _ ⟨[Value.ref (hp.objs.size + 1), u], []⟩ [Value.ref (hp.objs.size + 1), u] _ _ (fun _ _ _ => False) (hr1.make C [u] []) (I2.env0.make C [u] []) (by have z := hb _ [Value.ref (hp.objs.size + 1), u] I2.kIn rfl; exact z) r2 hsp) fun r s' hq' => ?_))
  cases r with
  | error er => exact hx pins σ _ _ er s' I2 hq'
  | ok fl =>
    cases fl with
    | ret u' =>
      obtain ⟨v', H2, os2, bare2, un2, hok2, rv, ev, q2⟩ := hq'
      subst ev
      obtain ⟨h2, g2, d2, t2, os'⟩ := s'
      exact ⟨rv, .ref (hp.objs.size + 1), H2, I2.call' (ch := []) os2 un2 hok2 bare2 (fun b z => absurd z (by simp)), rfl, q2⟩
    | next => exact False.elim hq'
    | brk => exact False.elim hq'
    | cont => exact False.elim hq'
/-! ### the class without own __init__, called with nothing -/
theorem pe_err0 {bmB : List Value} {B newId initId : String} (F : ExcBaseFacts B newId initId bmB) (qq : PySem.W.excIn X.K C bmB newId = true) (gC : X.mg x = some (.ref C)) (kC : PySem.W.keepIn X.K (.ref C) = true) (hg : Gl X x := by rfl)
    (hdb : (x == ("__debug__" : Str)) = false := by decide) :
    PE X (.Call (.Name x p) [] [] pos) (fun σ H Q => ∀ a, H a = none → Q (.ref a) (upd H a (exo a C none))) := by
  refine ⟨fun pins s σ H Q I h => ?_⟩
  refine wpAny_Call_Name_kw (ld_glob I hg gC ?_ hdb)
  refine PySem.W.callWith_K0 I.kIn kC ?_
  show wpAny _ _ (call (.ref C) []) _ _ _
  obtain ⟨bm, N, nm, qn, bs, hdct, sn, sub, ab, col, dd, k0, k1, k2, k3, k5, mN, hC, hN, hni, T⟩ := exc_obj I.kIn qq
  refine wpAny_call_exc_subT F T hC hN hni (fun h' a hm => ?_) (by show 0 ≤ sizeLine; exact Nat.zero_le _)
  have hn : H a = none := I.hok.gone hm.new
  obtain ⟨t, ht, _, _⟩ := hm.there
  exact ⟨.ref a, upd H a (exo a C none), I.laidN hm.keeps hm.new hn (exo_ok ht), rfl, h a hn⟩
/-! ### e.f -/
def tEf (K : PySem.W.Frag) (f : Str) (te : TE) : TE := fun σ H Q => te σ H fun x H1 => ∃ (a C d : Addr) (fs : List (Str × V)) (v : V), x = .ref a ∧ XfC K C ∧ PySem.W.findIn K (.ref C) f = some none ∧ H1 a = some (exo a C (some d)) ∧ H1 d = some (exd d fs) ∧ fs.lookup f = some v ∧ Q v H1
theorem pe_ef (he : PE X e te) (hb : attributeBase e f X.env (eval e X.env) = eval e X.env := by rfl) : PE X (.Attribute e f pos) (tEf X.K f te) := by
  refine ⟨fun pins s σ H Q I h => ?_⟩
  refine attr_of hb (thn (he.run pins s σ H _ I h) fun u s1 hh => ?_)
  obtain ⟨x, H1, I1, rx, a, C, d, fs, v, ex, T, hno, ea, ed, l, q⟩ := hh
  subst ex
  obtain rfl : u = Value.ref a := rx
  obtain ⟨t1, ho⟩ := exo_at I1.hok ea
  obtain ⟨mA, hns, hr⟩ := exd_at I1.hok ed
  obtain ⟨od, hod, hl⟩ := lookIn_ns hns
  obtain ⟨u, hu, ru⟩ := RelO.some_of (v := v) (o := mA f) (by rw [← l]; exact hr f)
  have J : PySem.W.InstAt s1.heap a { cls := .ref C, dict := some d, data := .fields #[.ref t1, .none, .none, .none, .bool false, .none] } C (some od) := ⟨ho, rfl, rfl, hod⟩
  exact HandSPX.exc_get I1.kIn J T.ga T.gg T.exC (PySem.W.findObj_own T.hdC hno rfl (by rw [hl, hu])) (handed_of ru) ⟨v, H1, I1.tok _, ru, q⟩
/-! ### isinstance -/
def rIsX (K : PySem.W.Frag) : List V → Hp → VK → Prop := fun xs H Q => ∃ (a C : Addr) (d : Option Addr) (c : V) (cv : Value) (b : Bool), xs = [.ref a, c] ∧ ExcC K C ∧ H a = some (exo a C d) ∧ (∀ dx, d = some dx → ∃ fs, H dx = some (exd dx fs)) ∧
  (∀ u, RelV c u → u = cv) ∧ PySem.W.kitOne K (.ref C) cv = some b ∧ Q (.bl b) H
theorem call_isX : CallR X (.builtin "isinstance") (rIsX X.K) := by
  intro pins s σ H xs us Q I r h
  obtain ⟨a, C, d, c, cv, b, rfl, T, ea, ed, hcv, e, q⟩ := h
  cases r with
  | cons rx rr =>
    cases rr with
    | cons rt rr =>
      cases rr
      cases rx
      have ec := hcv _ rt
      subst ec
      obtain ⟨t1, ho⟩ := exo_at I.hok ea
      have J : ∃ od, PySem.W.InstAt s.heap a { cls := .ref C, dict := d, data := .fields #[.ref t1, .none, .none, .none, .bool false, .none] } C od := by
        cases d with
        | none => exact ⟨none, ho, rfl, rfl, trivial⟩
        | some dx =>
          obtain ⟨fs, hd⟩ := ed dx rfl
          obtain ⟨mA, hns, _⟩ := exd_at I.hok hd
          obtain ⟨od, hod, _⟩ := lookIn_ns hns
          exact ⟨some od, ho, rfl, rfl, hod⟩
      obtain ⟨od, J⟩ := J
      have hcl : (PySem.W.clsIn X.K C).isSome = true := by
        obtain ⟨cd, hc, _⟩ := PySem.W.any_some T.hd
        rw [hc]; rfl
      exact PySem.W.kia_one (PySem.W.kitx_exc hcl T.hg T.hk T.hs T.ha T.hn T.ht T.hm) I.kIn J e (fun z => nomatch z) fun tk => ⟨.bl b, H, I.kept (t' := tk) fun _ _ z => z, rfl, q⟩
end
end TW

namespace TW
open PySem PySem.Spec PyProof.Rows L2
/-! ### operators of an own class -/
section
variable {M : Model} {h : Heap} {K : PySem.W.Frag} {C : Addr} {nm : String}
/-- neither the class nor object has the in-place method -/
theorem looks_noI {cd : ClassData} {add : Bool} (X : K.In h) (hc : PySem.W.clsIn K C = some cd) (hm : cd.mro = [.ref C, .type "object"]) (h1 : PySem.W.findIn K (.ref C) (dunderI nm) = some none) (h2 : PySem.W.findIn K (.type "object") (dunderI nm) = some none) :
    PySem.W.Looks M h (fillsInplaceSlot (.ref C) nm add) false := by
  intro A Q E s k q
  have Lm : PySem.W.Looks M h (mroOf (.ref C)) cd.mro := (PySem.W.looks_clsIn X hc).andThen (f := fun cd => pure cd.mro) .now
  have X' : K.In s.heap := X.keeps k
  unfold fillsInplaceSlot
  refine wpAny_bind (Lm A _ E s k ?_)
  rw [hm, List.anyM_cons]
  refine wpAny_bind (wpAny_bind (PySem.W.looks_findIn X h1 A _ E s k ?_))
  refine wpAny_pure ?_
  rw [List.anyM_cons]
  refine wpAny_bind (wpAny_bind (PySem.W.looks_findIn X h2 A _ E s k ?_))
  refine wpAny_pure ?_
  exact wpAny_pure q
end
section
variable {X : Cx} {CX : CXT} {k k' : Nat} {C : Addr} {m : Str} {ps : List Str} {sp : Sp} {E : XK}
/-- the class as the operators ask of it -/
structure OpC (K : PySem.W.Frag) (C : Addr) : Prop where
  sf : PySem.W.selfFirst K C = true
/-- x op y, both of the class -/
def rOwn (C : Addr) (sp : Sp) (E : XK) : R2 := fun x y H Q => ∃ (a b d1 d2 : Addr) (f1 f2 : List (Str × V)), x = .ref a ∧ y = .ref b ∧ H a = some (.ins C d1 f1) ∧ H b = some (.ins C d2 f2) ∧ sp [.ref a, .ref b] H (fun v H' => (∃ r, v = .ref r) ∧ Q v H') E
theorem back_ref {pins : List (Addr × Obj)} {σ : L2.St} {Q : VK} {u : Value} {s : Shared} (h : EP X pins σ (fun v H' => (∃ r, v = .ref r) ∧ Q v H') u s) : PySem.W.CmpBack (EP X pins σ Q) u s := by
  obtain ⟨v, H, I, r, ⟨p, rfl⟩, q⟩ := h
  cases r
  exact ⟨.ref p, H, I, rfl, q⟩
theorem op_own {op : Operator} (D : MethOk X.prog X.w X.K X.mg X.base CX k C m ps [] sp) (c : OpC X.K C) (hr : Room k' X.A) (hx : Passes CX X E) (hk : k ≤ k' := by decide) (hm : m = PySem.dunder op.info.2 := by rfl) : OpR X (binaryOp op) (rOwn C sp E) := by
  obtain ⟨f, fd, ds, hM, hb, hd, F⟩ := D
  intro pins s σ H x y v u Q I rx ry h
  obtain ⟨a, b, d1, d2, f1, f2, rfl, rfl, ea, eb, q⟩ := h
  cases rx
  cases ry
  obtain ⟨mA, oA, _, _, _, _⟩ := ins_get I.hok ea
  obtain ⟨mB, oB, _, _, _, _⟩ := ins_get I.hok eb
  obtain ⟨odA, IA, _⟩ := oA.look
  obtain ⟨odB, IB, _⟩ := oB.look
  obtain ⟨mf, fr⟩ := I.fr
  subst hm
  refine PySem.W.binop_K fr I.ok.mod.kin IA IB.type c.sf hM.at_ hM.fn ?_
  refine wpAny_mono (run_fn (vs := [.ref a, .ref b]) F (hr.mono hk) hb hd hx I (.cons rfl (.cons rfl .nil)) q) (fun _ _ z => back_ref z) fun _ _ z => z
/-- x op= y where the class has no in-place method -/
theorem op_ownI {op : Operator} {cd : ClassData} (D : MethOk X.prog X.w X.K X.mg X.base CX k C m ps [] sp) (c : OpC X.K C) (hc : PySem.W.clsIn X.K C = some cd) (hmro : cd.mro = [.ref C, .type "object"]) (h1 : PySem.W.findIn X.K (.ref C) (dunderI op.info.2) = some none)
    (h2 : PySem.W.findIn X.K (.type "object") (dunderI op.info.2) = some none) (hr : Room k' X.A) (hx : Passes CX X E) (hk : k ≤ k' := by decide) (hm : m = PySem.dunder op.info.2 := by rfl) : OpR X (inplaceOp op) (rOwn C sp E) := by
  obtain ⟨f, fd, ds, hM, hb, hd, F⟩ := D
  intro pins s σ H x y v u Q I rx ry h
  obtain ⟨a, b, d1, d2, f1, f2, rfl, rfl, ea, eb, q⟩ := h
  cases rx
  cases ry
  obtain ⟨mA, oA, _, _, _, _⟩ := ins_get I.hok ea
  obtain ⟨mB, oB, _, _, _, _⟩ := ins_get I.hok eb
  obtain ⟨odA, IA, _⟩ := oA.look
  obtain ⟨odB, IB, _⟩ := oB.look
  subst hm
  have XK := I.kIn
  have run := run_fn (vs := [.ref a, .ref b]) F (hr.mono hk) hb hd hx I (.cons rfl (.cons rfl .nil)) q
  unfold inplaceOp
  refine wpAny_holding ?_
  refine wpAny_bind (IA.type.here (wpAny_bind ((looks_noI XK hc hmro h1 h2).here ?_)))
  simp only [Bool.false_eq_true, if_false]
  refine wpAny_bind ?_
  unfold binaryOp1
  refine wpAny_bind (IA.type.here (wpAny_bind (IB.type.here (wpAny_bind ((PySem.W.fills_K XK hc (by rw [hmro]) hM.at_).here ?_)))))
  simp only [beq_self_eq_true, if_true]
  refine wpAny_bind (wpAny_pure ?_)
  simp only [Bool.and_false, Bool.false_eq_true, if_false, Bool.false_and]
  refine wpAny_bind (wpAny_pure ?_)
  simp only [Bool.false_eq_true, if_false]
  refine wpAny_bind (m := tryMethod (.ref a) _ (.ref b)) ?_
  unfold tryMethod
  refine wpAny_bind (PySem.W.special_fn XK IA hM.at_ (beq_iff_eq.mp hM.fn) (wpAny_mono run (fun v s' hv => ?_) fun _ _ e => e))
  have hv' := back_ref hv
  cases v <;> first | exact hv'.elim | exact wpAny_pure (wpAny_pure (wpAny_pure hv'))
/-- x op k, k an int -/
def rOwnN (C : Addr) (sp : Sp) (E : XK) : R2 := fun x y H Q => ∃ (a d1 : Addr) (f1 : List (Str × V)) (k : Int), x = .ref a ∧ y = .int k ∧ H a = some (.ins C d1 f1) ∧ sp [.ref a, .int k] H (fun v H' => (∃ r, v = .ref r) ∧ Q v H') E
theorem op_ownN {op : Operator} {fo ro : Option Value} (D : MethOk X.prog X.w X.K X.mg X.base CX k C m ps [] sp) (c : OpC X.K C) (h0 : PySem.W.findIn X.K (.ref C) (dunderR op.info.2) = some none) (h1 : fastLookup "int" (PySem.dunder op.info.2) = some fo)
    (h2 : fastLookup "int" (dunderR op.info.2) = some ro) (hr : Room k' X.A) (hx : Passes CX X E) (hk : k ≤ k' := by decide) (hm : m = PySem.dunder op.info.2 := by rfl) : OpR X (binaryOp op) (rOwnN C sp E) := by
  obtain ⟨f, fd, ds, hM, hb, hd, F⟩ := D
  intro pins s σ H x y v u Q I rx ry h
  obtain ⟨a, d1, f1, z, rfl, rfl, ea, q⟩ := h
  cases rx
  obtain ⟨t, rfl⟩ := ry
  obtain ⟨mA, oA, _, _, _, _⟩ := ins_get I.hok ea
  obtain ⟨odA, IA, _⟩ := oA.look
  obtain ⟨mf, fr⟩ := I.fr
  subst hm
  have hsub : PySem.W.subIn X.K (.type "int") (.ref C) = some false := by
    have e : fastBuiltinMro "int" = some [.type "int", .type "object"] := by decide +kernel
    show (fastBuiltinMro "int").map (·.contains (.ref C)) = _
    rw [e]
    rfl
  refine PySem.W.ksp_binT (T := "int") fr I.ok.mod.kin IA rfl c.sf hM.at_ hM.fn h0 (.inl rfl) (show PySem.W.findIn X.K (.type "int") _ = some fo from h1) (show PySem.W.findIn X.K (.type "int") _ = some ro from h2) hsub ?_
  refine wpAny_mono (run_fn (vs := [.ref a, .int z]) F (hr.mono hk) hb hd hx I (.cons rfl (.cons ⟨t, rfl⟩ .nil)) q) (fun _ _ z => back_ref z) fun _ _ z => z
/-- ~x -/
def rOwnU (C : Addr) (sp : Sp) (E : XK) : V → Hp → VK → Prop := fun x H Q => ∃ (a d1 : Addr) (f1 : List (Str × V)), x = .ref a ∧ H a = some (.ins C d1 f1) ∧ sp [.ref a] H Q E
theorem un_inv (D : MethOk X.prog X.w X.K X.mg X.base CX k C "__invert__" ps [] sp) (hr : Room k' X.A) (hx : Passes CX X E) (hk : k ≤ k' := by decide) : UnR X (unaryOp .Invert) (rOwnU C sp E) := by
  obtain ⟨f, fd, ds, hM, hb, hd, F⟩ := D
  intro pins s σ H x v Q I rx h
  obtain ⟨a, d1, f1, rfl, ea, q⟩ := h
  cases rx
  obtain ⟨mA, oA, _, _, _, _⟩ := ins_get I.hok ea
  obtain ⟨odA, IA, _⟩ := oA.look
  obtain ⟨mf, fr⟩ := I.fr
  refine PySem.W.ksp_inv fr I.ok.mod.kin IA hM.at_ hM.fn ?_
  exact run_fn (vs := [.ref a]) F (hr.mono hk) hb hd hx I (.cons rfl .nil) q
/-- x[i] -/
def rOwnIx (C : Addr) (sp : Sp) (E : XK) : R2 := fun x y H Q => ∃ (a d1 : Addr) (f1 : List (Str × V)) (i : Int), x = .ref a ∧ y = .int i ∧ H a = some (.ins C d1 f1) ∧ sp [.ref a, .int i] H Q E
theorem run_fn1 {f : Addr} {fd : FuncData} {ds : List Value} {dvs : List V} {pins : List (Addr × Obj)} {σ : L2.St} {H : Hp} {s : Shared} {Q : VK} {us : List Value} {vs : List V} (F : FnOk X.prog X.w X.K X.mg X.base CX k f fd ps sp) (hr : Room k X.A.in1) (hb : Binds X.K fd ps ds) (hd : Vals dvs ds)
    (hx : Passes CX X E) (I : Inv X pins σ H s) (r : Vals vs us) (h : sp (vs ++ dvs) H Q E) : wpAny (model X.prog X.w) X.A.in1 (call (.ref f) us) (EP X pins σ Q) X.xe s := by
  have r2 := r.append hd
  have hl : (us ++ ds).length = ps.length := r2.length.symm.trans (F.len _ _ _ _ h)
  refine wpAny_call (codeAny_mono (F.run X.A.in1 X.stack s H ⟨us, []⟩ (us ++ ds) (vs ++ dvs) Q E hr I.env0.in1 (hb s us I.kIn hl) r2 h) fun z s' hq => ?_)
  match z, hq with
  | .error e, hq => exact hx pins σ H s e s' I hq
  | .ok (.ret u), hq => exact I.after hq
theorem pe_ownIx {a b : Expr} {ta tb : TE} {pos : Pos} (D : MethOk X.prog X.w X.K X.mg X.base CX k C "__getitem__" ps [] sp) (hfn : ∀ f, PySem.W.findIn X.K (.ref C) "__getitem__" = some (some (.ref f)) → PySem.W.fnIn X.K f = true) (hr : Room k' X.A) (hx : Passes CX X E) (ha : PE X a ta) (hb : PE X b tb)
    (hk : k + 1 ≤ k' := by decide) (hs : ∀ (x : Addr) (i : Value), subscripted b true (.ref x) i = runValue (.builtin "lifetime.subscript" ⟨[.ref x, i], []⟩) := by intro _ _; with_unfolding_all rfl) : PE X (.Subscript a b pos) (tOp (rOwnIx C sp E) ta tb) := by
  obtain ⟨f, fd, ds, hM, hbi, hd, F⟩ := D
  refine ⟨fun pins s σ H Q I h => ?_⟩
  refine Subscript_ (binT ha hb I h fun v u s2 x y H2 I2 rx ry q => ?_)
  obtain ⟨p, d1, f1, i, rfl, rfl, ea, q⟩ := q
  cases rx
  obtain ⟨t, rfl⟩ := ry
  obtain ⟨mA, oA, _, _, _, _⟩ := ins_get I2.hok ea
  obtain ⟨odA, IA, _⟩ := oA.look
  obtain ⟨mf, fr⟩ := I2.fr
  refine PySem.W.sub_K fr I2.ok.mod.kin IA hM.at_ (hfn f hM.at_) hM.fn ?_ (hs p _)
  exact run_fn1 (vs := [.ref p, .int i]) F (hr.mono hk).in1 hbi hd hx I2 (.cons rfl (.cons ⟨t, rfl⟩ .nil)) q
end
end TW

namespace TW
open PySem PySem.Spec PyProof.Rows L2
/-! ### an error with one attribute, raised -/
section
variable {X : Cx} {CX : CXT} {k k' : Nat} {C : Addr} {x f q : Str} {e : Expr} {te : TE} {p pos : Pos}
theorem upd_del {H : Hp} {a d C : Addr} {f : Str} {v : V} (ha : H a = none) (hd : d ≠ a) :
    upd (del (upd (upd (upd H a (exo a C none)) d (exd d [(f, v)])) a (exo a C (some d))) a) d (.xd [(f, v)]) = upd H d (.xd [(f, v)]) := by
  funext b
  by_cases h1 : b = d
  · rw [h1, upd_same, upd_same]
  · rw [upd_ne h1, upd_ne h1]
    by_cases h2 : b = a
    · rw [h2, del_same, ha]
    · rw [del_ne h2, upd_ne h2, upd_ne h1, upd_ne h2]
def tMkErr (C : Addr) (f : Str) (te : TE) : L2.St → Hp → XK → Prop := fun σ H Q => te σ H fun v H1 => ∀ d : Addr, H1 d = none → Q (.ref C) (some d) (upd H1 d (.xd [(f, v)]))
theorem pmk_err (D : ErrOk X.prog X.w X.K X.mg X.base CX k C x f q) (hr : Room k' X.A) (hx : Passes CX X (fun _ _ _ => False)) (he : PE X e te) (hk : k + 1 ≤ k' := by decide) (hg : Gl X x := by rfl)
    (hdb : (x == ("__debug__" : Str)) = false := by decide) (hs : starEach [e] X.env = (false, eval e X.env) :: starEach [] X.env := by rfl) (hpl : (backTo pos (starEach [] X.env)).any (·.1) = false := by rfl) :
    PMk X (.Call (.Name x p) [e] [] pos) (tMkErr C f te) := by
  obtain ⟨T, hm, fI, fd, iC, tI, hb, F1⟩ := D
  have he2 : PE X e (fun σ H Q => ∃ Q0 : VK, te σ H Q0 ∧ ∀ v H1, Q0 v H1 → Q v H1) := ⟨fun pins s σ H Q I ⟨Q0, h0, hm⟩ =>
    wpAny_mono (he.run pins s σ H Q0 I h0) (fun _ _ ⟨v, H1, I1, r1, q1⟩ => ⟨v, H1, I1, r1, hm v H1 q1⟩) fun _ _ z => z⟩
  have R := pmk_oex (p := p) (pos := pos) T.oex iC tI F1 (hr.mono hk) hb .nil hx hg hm (pa_cons he2 pa_nil hs) hdb hs hpl
  intro pins s σ H Q I h
  refine R pins s σ H Q I ?_
  refine ⟨_, h, fun v H1 q => ⟨by show 1 ≤ 1000; decide, fun a na => ⟨a, v, rfl, upd_same, fun d nd dne => ⟨rfl, d, [(f, v)], upd_same, ?_, ?_, ?_⟩⟩⟩⟩
  · rw [upd_ne dne, upd_same]
  · rw [upd_ne dne] at nd
    exact nd
  · rw [upd_del na dne]
    rw [upd_ne dne] at nd
    exact q d nd
/-- x op y of an own class, which may raise -/
def tOwnS (C : Addr) (sp : Sp) (E : L2.St → XK) (ta tb : TE) : TE := fun σ H Q => ta σ H fun x H1 => tb σ H1 fun y H2 => rOwn C sp (E σ) x y H2 Q
theorem pe_ownS {op : Operator} {m : Str} {ps : List Str} {sp : Sp} {E : L2.St → XK} {a b : Expr} {ta tb : TE} (D : MethOk X.prog X.w X.K X.mg X.base CX k C m ps [] sp) (c : OpC X.K C) (hr : Room k' X.A) (hx : ∀ σ, PassesAt CX X σ (E σ)) (ha : PE X a ta) (hb : PE X b tb)
    (hk : k ≤ k' := by decide) (hm : m = PySem.dunder op.info.2 := by rfl) : PE X (.BinOp a op b pos) (tOwnS C sp E ta tb) := by
  obtain ⟨f, fd, ds, hM, hbi, hd, F⟩ := D
  refine ⟨fun pins s σ H Q I h => ?_⟩
  refine wpAny_BinOp (binT ha hb I h fun v u s2 x y H2 I2 rx ry q => ?_)
  obtain ⟨p, r, d1, d2, f1, f2, rfl, rfl, ea, eb, q⟩ := q
  cases rx
  cases ry
  obtain ⟨mA, oA, _, _, _, _⟩ := ins_get I2.hok ea
  obtain ⟨mB, oB, _, _, _, _⟩ := ins_get I2.hok eb
  obtain ⟨odA, IA, _⟩ := oA.look
  obtain ⟨odB, IB, _⟩ := oB.look
  obtain ⟨mf, fr⟩ := I2.fr
  subst hm
  refine PySem.W.binop_K fr I2.ok.mod.kin IA IB.type c.sf hM.at_ hM.fn ?_
  refine wpAny_mono (run_fnSD (E := E) (vs := [.ref p, .ref r]) F (hr.mono hk) hbi hd (hx σ) I2 (.cons rfl (.cons rfl .nil)) q) (fun _ _ z => back_ref z) fun _ _ z => z
end
end TW

namespace TW
open PySem PySem.Spec PyProof.Rows L2
/-! ### == and != by an own __eq__, whatever the other one is -/
section
open Builtin
variable {prog : Program} {w : World} {A : Around} {E : Value → Shared → Prop} {s : Shared} {K : PySem.W.Frag} {x C L f : Addr} {h₀ : Heap} {m : Str → Option Value} {ox : Obj} {od : Option Obj} {b tb : Value}
theorem ne_entry (X : K.In s.heap) (I : PySem.W.InstAt s.heap x ox C od) (hs : PySem.W.findIn K (.ref C) "__eq__" = some (some (.ref f))) (hf : PySem.W.isFn K (.ref f) = true) (hu : A.units < cLine) {Q : Fin → Shared → Prop}
    (hcall : wpAny (model prog w) A (call (.ref f) [.ref x, b]) (fun v s' => ∃ c, v = .bool c ∧ Q (.done (.ret (.bool (!c)))) s') E s) :
    wpAny (model prog w) A (Builtin.«object.__ne__» ⟨[.ref x, b], []⟩) Q E s := by
  unfold Builtin.«object.__ne__»
  repeat (first
    | with_reducible refine wpAny_cRoomFor hu ?_
    | (refine wpAny_bind (m := callSpecialIfBound? (.ref x) (Str.ofString "__eq__") [b])
        (PySem.W.ifBound_K X I hs hf (wpAny_mono hcall (fun r s' hr => by
          obtain ⟨c, rfl, hq⟩ := hr
          repeat (first | exact hq | exact wpAny_pure hq | exact wpAny_truthy_bool hq | (refine wpAny_bind (m := truthy (.bool _)) (wpAny_truthy_bool ?_)) | wp_step)) fun _ _ e => e)))
    | wp_step)
theorem ne_own (hu : A.units + 1 < cLine) (F : Fr h₀ L s.heap m) (X₀ : K.In h₀) (I : PySem.W.InstAt s.heap x ox C od) (hb : PySem.W.Looks (model prog w) s.heap (typeOf b) tb) (hn : PySem.W.notFirst K C tb = true)
    (hne : PySem.W.findIn K (.ref C) "__ne__" = some (some (.builtin "object.__ne__"))) (hs : PySem.W.findIn K (.ref C) "__eq__" = some (some (.ref f))) (hf : PySem.W.isFn K (.ref f) = true) (hm : PySem.W.mroIn K C (.type "object") = some true) {Q : Value → Shared → Prop}
    (h : wpAny (model prog w) A.in1 (call (.ref f) [.ref x, b]) (fun v s' => ∃ c, v = .bool c ∧ Q (.bool (!c)) s') E s) : wpAny (model prog w) A (compareOp .NotEq (.ref x) b) Q E s := by
  have X := X₀.keeps F.keep
  have FB := PySem.F.cmp_object
  have one : wpAny (model prog w) A (tryCompare (.ref x) (cmpInfo .NotEq).2.1 b) (fun r s' => ∃ v, r = some v ∧ Q v s') E s := by
    unfold tryCompare
    refine wpAny_bind ?_
    simp only [callSpecialIfBound?, bindSpecialIfBound?]
    refine wpAny_holding (wpAny_bind (wpAny_bind (wpAny_bind (I.type.here ((PySem.W.looks_findIn X hne).here ?_)))))
    simp only [FB.ne.bind]
    refine wpAny_bind (wpAny_askSetting (wpAny_ite ?_))
    have sub : PySem.W.Looks (model prog w) s.heap (isInstance (.ref x) (.type "object")) true := I.type.andThen (PySem.W.looks_mroIn X hm)
    have fin : wpAny (model prog w) A (call (.builtin "object.__ne__") [.ref x, b]) (fun v s' => ∃ c, v = .bool c ∧ Q (.bool c) s') E s := by
      refine wpAny_call (codeAny_call_builtin FB.ne.plain PySem.F.cmpEntry_ne ?_)
      refine @PySem.W.check_slot (model prog w) _ _ s "object.__ne__" "object" "__ne__" (.ref x) [b] [] _ PySem.F.cmpKind_ne PySem.F.cmpSplit_ne sub (PySem.F.cmpArgs_ne _ _) ?_
      refine ne_entry (A := A.in1) X I hs hf hu (wpAny_mono h (fun v s' hv => ?_) fun _ _ e => e)
      obtain ⟨c, rfl, hq⟩ := hv
      exact ⟨c, rfl, _, rfl, hq⟩
    have go : wpAny (model prog w) A (call (.builtin "object.__ne__") ([.ref x] ++ [b]) >>= fun v => pure (some v)) (fun a s' => wpAny (model prog w) A (match a with | some .notImplemented => pure none | none => pure none | some v => pure (some v)) (fun r s' => ∃ v, r = some v ∧ Q v s') E s') E s :=
      wpAny_bind (wpAny_mono fin (fun v s' hv => by
        obtain ⟨c, rfl, hq⟩ := hv
        exact wpAny_pure (wpAny_pure ⟨_, rfl, hq⟩)) fun _ _ e => e)
    split
    · exact wpAny_bind (wpAny_pure (wpAny_pure go))
    · exact wpAny_tryCatch (wpAny_bind (wpAny_pure (wpAny_pure go)))
  show wpAny (model prog w) A (richCompare .NotEq (.ref x) b) Q E s
  unfold richCompare
  simp only [oneThing_ref]
  refine wpAny_holding (wpAny_bind (wpAny_cRoomFor (Nat.lt_of_succ_lt hu) ?_))
  refine wpAny_bind (I.type.here (wpAny_bind (hb.here ?_)))
  split
  · rename_i q
    have e : PySem.W.subIn K tb (.ref C) = some false := by
      rcases Bool.or_eq_true_iff.mp hn with e | e
      · rw [beq_iff_eq.mp e] at q; simp at q
      · exact beq_iff_eq.mp e
    refine wpAny_bind ((PySem.W.looks_subIn X e).here ?_)
    simp only [Bool.false_eq_true, if_false]
    refine wpAny_bind (wpAny_mono one (fun r s' z => ?_) fun _ _ e => e)
    obtain ⟨v, rfl, hq⟩ := z
    exact wpAny_pure hq
  · refine wpAny_bind (wpAny_pure ?_)
    simp only [Bool.false_eq_true, if_false]
    refine wpAny_bind (wpAny_mono one (fun r s' z => ?_) fun _ _ e => e)
    obtain ⟨v, rfl, hq⟩ := z
    exact wpAny_pure hq
end
section
variable {X : Cx} {CX : CXT} {k k' : Nat} {C : Addr} {ps : List Str} {sp : Sp} {E : XK}
/-- x == y, x of the class, y of a type that is none below it -/
def rEqOwn (K : PySem.W.Frag) (C : Addr) (neg : Bool) (sp : Sp) (E : XK) : R2 := fun x y H Q => ∃ (a d1 : Addr) (f1 : List (Str × V)) (t : Value), x = .ref a ∧ H a = some (.ins C d1 f1) ∧ TyX K H y t ∧ PySem.W.notFirst K C t = true ∧
  sp [.ref a, y] H (fun v H' => ∃ c, v = .bl c ∧ Q (.bl (c != neg)) H') E
theorem op_eqOwn (D : MethOk X.prog X.w X.K X.mg X.base CX k C "__eq__" ps [] sp) (hr : Room k' X.A) (hx : Passes CX X E) (hk : k ≤ k' := by decide) : OpR X (compareOp .Eq) (rEqOwn X.K C false sp E) := by
  obtain ⟨f, fd, ds, hM, hb, hd, F⟩ := D
  intro pins s σ H x y v u Q I rx ry h
  obtain ⟨a, d1, f1, t, rfl, ea, ty, hn, q⟩ := h
  cases rx
  obtain ⟨mA, oA, _, _, _, _⟩ := ins_get I.hok ea
  obtain ⟨odA, IA, _⟩ := oA.look
  obtain ⟨mf, fr⟩ := I.fr
  obtain ⟨P, Z, p, _⟩ := kit_of I ry ty
  have L := Z.ty (model X.prog X.w) s.heap I.kIn p
  refine PySem.W.cmp_K (op := .Eq) hr.units0 fr I.ok.mod.kin IA L hn hM.at_ hM.fn ?_
  refine wpAny_mono (run_fn (vs := [.ref a, y]) F (hr.mono hk) hb hd hx I (.cons rfl (.cons ry .nil)) q) (fun z s' hz => ?_) fun _ _ z => z
  obtain ⟨v', H', I', r', c, rfl, q'⟩ := hz
  cases r'
  have e : (c != false) = c := by cases c <;> rfl
  rw [e] at q'
  exact ⟨.bl c, H', I', rfl, q'⟩
/-- x != y by the same __eq__ -/
theorem op_neOwn (D : MethOk X.prog X.w X.K X.mg X.base CX k C "__eq__" ps [] sp) (hne : PySem.W.findIn X.K (.ref C) "__ne__" = some (some (.builtin "object.__ne__"))) (hm : PySem.W.mroIn X.K C (.type "object") = some true) (hr : Room k' X.A) (hx : Passes CX X E) (hk : k + 1 ≤ k' := by decide) :
    OpR X (compareOp .NotEq) (rEqOwn X.K C true sp E) := by
  obtain ⟨f, fd, ds, hM, hb, hd, F⟩ := D
  intro pins s σ H x y v u Q I rx ry h
  obtain ⟨a, d1, f1, t, rfl, ea, ty, hn, q⟩ := h
  cases rx
  obtain ⟨mA, oA, _, _, _, _⟩ := ins_get I.hok ea
  obtain ⟨odA, IA, _⟩ := oA.look
  obtain ⟨mf, fr⟩ := I.fr
  obtain ⟨P, Z, p, _⟩ := kit_of I ry ty
  have L := Z.ty (model X.prog X.w) s.heap I.kIn p
  refine ne_own (by have := hr.un; omega) fr I.ok.mod.kin IA L hn hne hM.at_ hM.fn hm ?_
  refine wpAny_mono (run_fn1 (vs := [.ref a, y]) F (hr.mono hk).in1 hb hd hx I (.cons rfl (.cons ry .nil)) q) (fun z s' hz => ?_) fun _ _ z => z
  obtain ⟨v', H', I', r', c, rfl, q'⟩ := hz
  cases r'
  have e : (c != true) = !c := by cases c <;> rfl
  rw [e] at q'
  exact ⟨c, rfl, .bl (!c), H', I', rfl, q'⟩
end
end TW

namespace TW
open PySem PySem.Spec PyProof.Rows L2
/-! ### an object made by an __init__ that raises, in a try -/
section
variable {X : Cx} {CX : CXT} {k k' : Nat} {ps : List Str} {sp : Sp} {dvs : List V} {E : L2.St → XK} {x : Str} {p pos : Pos} {e : Expr} {es : List Expr} {t : TA} {C : Addr}
def tMakeS (C : Addr) (sp : Sp) (dvs : List V) (E : L2.St → XK) (t : TA) : TE := fun σ H Q => t σ H fun vs H1 => ∀ y dx, H1 y = none → H1 dx = none → dx ≠ y →
  sp (.ref y :: (vs ++ dvs)) (upd (upd H1 dx (.own y)) y (.ins C dx [])) (fun v H2 => v = .non ∧ Q (.ref y) H2) (E σ)
theorem pe_mkS (D : MakeOk X.prog X.w X.K X.mg X.base CX k C x ps dvs sp) (hr : Room k' X.A) (hx : ∀ σ, PassesAt CX X σ (E σ)) (ha : PA X (e :: es) t) (hk : k + 1 ≤ k' := by decide) (hg : Gl X x := by rfl) (hdb : (x == ("__debug__" : Str)) = false := by decide)
    (he : starEach (e :: es) X.env = (false, eval e X.env) :: starEach es X.env := by rfl) (hpl : (backTo pos (starEach es X.env)).any (·.1) = false := by rfl) : PE X (.Call (.Name x p) (e :: es) [] pos) (tMakeS C sp dvs E t) := by
  obtain ⟨hm, f, fd, ds, M, hb, hd, F⟩ := D
  have hr1 := hr.mono hk
  refine ⟨fun pins s σ H Q I h => ?_⟩
  refine wpAny_Call_Name_kw (ld_glob I hg hm ?_ hdb)
  refine PySem.W.callWith_K (h₀ := X.base) I.ok.mod.kin M.kp (thn (ha.run pos pins s σ H _ I h) fun us s1 ⟨vs, H1, I1, r, q⟩ => ⟨I1.kIn, ?_⟩) he hpl
  show wpAny _ _ (call (.ref C) us) _ _ _
  have q2 := q (s1.heap.objs.size + 1) s1.heap.objs.size (I1.hok.fresh (Nat.le_succ _)) (I1.hok.fresh (Nat.le_refl _)) (Nat.ne_of_lt (Nat.lt_succ_self _))
  have I2 := Inv.made (C := C) I1
  have rr : Vals (V.ref (s1.heap.objs.size + 1) :: (vs ++ dvs)) (Value.ref (s1.heap.objs.size + 1) :: (us ++ ds)) := .cons rfl (r.append hd)
  have len : (Value.ref (s1.heap.objs.size + 1) :: us ++ ds).length = ps.length := rr.length.symm.trans (F.len _ _ _ _ q2)
  refine wpAny_call (make_map (f := f) I1.kIn M.makes M.init (beq_iff_eq.mp M.fn) (codeAny_mono (F.run _ X.stack _ _ ⟨Value.ref (s1.heap.objs.size + 1) :: us, []⟩ _ _ _ (E σ) (hr1.make C us []) (I2.env0.make C us []) (hb _ (Value.ref (s1.heap.objs.size + 1) :: us) I2.kIn len) rr q2) fun z s' hz => ?_))
  match z, hz with
  | .error er, hz => exact hx σ pins _ _ er s' I2 hz
  | .ok (.ret u), hz =>
    obtain ⟨v, H', I3, rv, ev, q3⟩ := I2.after hz
    subst ev
    exact ⟨rv, V.ref (s1.heap.objs.size + 1), H', I3, rfl, q3⟩
end
end TW

namespace TW
open PySem PySem.Spec PyProof.Rows L2
/-! ### try: .. with several clauses that name their error -/
abbrev Suite := Addr → Value → Option Addr → TS
/-- one clause behind the other: class, the slot of its name, its suite -/
def wManyA (K : PySem.W.Frag) (W0 : WX) (D : Ends) : List (Value × Nat × Suite) → WX
  | [] => W0
  | (c, i, ts) :: rest => fun cls d σ H => ∃ b, PySem.W.exmOne K cls c = some b ∧
      (b = true → ∀ a, H a = none → ts a cls d { nx := fun σ' H' => D.nx (σ'.set i none) H', rt := D.rt, bk := fun σ' H' => D.bk (σ'.set i none) H', ct := fun σ' H' => D.ct (σ'.set i none) H' } (σ.set i (some (.ref a))) H) ∧
      (b = false → wManyA K W0 D rest cls d σ H)
inductive HdsA (X : Cx) : List ExceptHandler → List (Value × Nat × Suite) → Prop
  | nil : HdsA X [] []
  | cons {x n : Str} {c : Value} {i : Nat} {ts : Suite} {b₀ : Stmt} {suite : List Stmt} {p1 p2 : Pos} {hs : List ExceptHandler} {l : List (Value × Nat × Suite)} (hc : Names X x c) (hi : X.N[i]? = some n) (hl : X.env.kindOf n = some .local)
      (su : ∀ (a : Addr) (o : Obj) (cls : Value) (d : Option Addr) (pn : List (Addr × Obj)), Zc cls d o → (∃ vs, o.data = .fields vs) → PSs (X.suite a ((a, o) :: pn)) (b₀ :: suite) (ts a cls d)) (rest : HdsA X hs l) :
      HdsA X (.ExceptHandler (some (.Name x p1)) (some n) (b₀ :: suite) p2 :: hs) ((c, i, ts) :: l)
section
variable {X : Cx} {body : List Stmt} {hd₀ : ExceptHandler} {hds : List ExceptHandler} {l : List (Value × Nat × Suite)} {tb : WX → TS} {W0 : WX} {pos : Pos}
theorem ps_try_manyA (hs : X.stack = X.env :: X.outer) (hf : X.env.frame = some X.env.locals) (hN : X.N.Nodup) (tk : Takes X W0)
    (hb : ∀ (W : WX) (pn : List (Addr × Obj)) (xe : Value → Shared → Prop), Takes (X.tr pn xe) W → PassesOwn (model X.prog X.w) X.A X.env xe → PSs (X.tr pn xe) body (tb W)) (hh : HdsA X (hd₀ :: hds) l) :
    PS X (.Try body (hd₀ :: hds) [] [] pos) (fun D σ H => tb (wManyA X.K W0 D l) D σ H) := by
  refine ⟨fun pins s0 σ0 H0 D I0 h0 => ?_⟩
  have OK := I0.ok
  have frm : X.A.frames = some (X.env :: X.outer) := by rw [OK.frames, hs]
  refine wpAny_Try_except (wpAny_mono ((hb (wManyA X.K W0 D l) (X.pn ++ pins) (fun u t1 => wpAny (model X.prog X.w) X.A (noteFrame u X.env) (fun _ t2 => wpAny (model X.prog X.w) X.A (setFlight u none) (fun _ t3 =>
    wpAny (model X.prog X.w) X.A (handleBy u X.env (hd₀ :: hds)) (SP X pins D) X.xe t3) X.xe t2) X.xe t1) (fun u sx air => ?_) PassesOwn.looking).run [] s0 σ0 H0 D (I0.toTry _) h0) (fun fl t1 sp => ?_) (fun u t1 z => z))
  · obtain ⟨x, G, sJ, pins2, σ1, H1, cls, d, rfl, JJ, keepB, upS, inSky, free, sameOs, bareS, how⟩ := air
    have J := JJ.ofTry OK
    rw [hs] at inSky
    refine Sky.land Zc.steady frm hf inSky fun hA flA upA => ?_
    have JA : Inv X pins σ1 H1 { sx with heap := hA } := J.landed keepB flA.1 (upS.trans upA) sameOs bareS
    obtain ⟨oA, vA, eA, zA, dA⟩ := flA.there
    have noF : x ∉ frs (X.env :: X.outer) := fun hm => by
      obtain ⟨_, o2, e2, bad⟩ := flA.2.2.1.mem hm
      rw [eA] at e2
      cases e2
      exact bad _ dA
    have neL : x ≠ X.env.locals := fun z => noF (List.mem_filterMap.mpr ⟨X.env, List.mem_cons_self, by rw [hf, z]⟩)
    have neF : x ∉ X.fs := fun hm => by
      obtain ⟨en, hen, z⟩ := List.mem_filterMap.mp hm
      exact noF (List.mem_filterMap.mpr ⟨en, List.mem_cons_of_mem _ hen, z⟩)
    have SA := JA.suite eA dA free neL neF
    have all : ∀ {hq : List ExceptHandler} {lq : List (Value × Nat × Suite)}, HdsA X hq lq → wManyA X.K W0 D lq cls d σ1 H1 → wpAny (model X.prog X.w) X.A (handleBy (.ref x) X.env hq) (SP X pins D) X.xe { sx with heap := hA } := by
      intro hq lq hk
      induction hk with
      | nil =>
        intro w0
        refine wpAny_handleBy_nil ?_
        obtain ⟨_, _, _, oB, vB, TB, oTB, tsB, eB, zB, dB, oneB, _⟩ := id flA
        unfold PySem.passOn
        refine wpAny_bind (wpAny_field eB dB oneB ?_)
        rw [if_neg (show ¬ ((Value.ref TB == Value.none) = true) by simp)]
        have out : wpAny (model X.prog X.w) X.A (setFlight (.ref x) X.env.frame) (fun _ t4 => wpAny (model X.prog X.w) X.A (throw (.ref x) : Sem Flow) (SP X pins D) X.xe t4) X.xe { sx with heap := hA } := by
          rw [hf]
          refine HandSPX.setFlight_upZ flA fun hB heldB upB => wpAny_throw (tk _ _ ⟨x, G, sJ, pins, σ1, H1, cls, d, rfl, J, keepB, (upS.trans upA).trans upB, .inr (.inr (by rw [hs]; exact heldB)), free, sameOs, bareS, w0⟩)
        first
          | exact wpAny_bind (wpAny_pure (wpAny_bind out))
          | exact wpAny_bind out
      | @cons xn n c i ts b₀ suite p1 p2 hs2 l2 hc hi hl su rest ih =>
        intro w0
        obtain ⟨b, hexm, yes, no⟩ := w0
        refine wpAny_handleBy_cons (codeAny_handlers_test ?_) (by intro z; cases z)
        have LT : PySem.W.Looks (model X.prog X.w) hA (typeOf (.ref x)) cls := fun A' Q' E' t k q => wpAny_typeOf_ref (k _ _ eA) (by rw [zA.1]; exact q)
        have LM := PySem.W.exm_one (M := model X.prog X.w) JA.kIn LT hexm
        have asked : ∀ {Q : Value → Shared → Prop} {E : Value → Shared → Prop}, Q c { sx with heap := hA } → wpAny (model X.prog X.w) (X.A.mark (some (.ref x))) (eval (.Name xn p1) X.env) Q E { sx with heap := hA } := fun {Q E} q => by
          obtain ⟨hg, hdb, hm | ⟨hm, hv, hn⟩⟩ := hc
          · exact ld_glob (X := X.suite x ((x, oA) :: (X.pn ++ pins))) SA hg hm q hdb
          · exact ld_blt (X := X.suite x ((x, oA) :: (X.pn ++ pins))) SA hg hm hv q hn hdb
        refine asked (LM.here ?_)
        cases b with
        | true =>
          refine codeAny_handlers_suite_as (HandSPX.lands_againZ flA fun hC flC upC => ?_)
          have JC : Inv X pins σ1 H1 { sx with heap := hC } := J.landed keepB flC.1 ((upS.trans upA).trans upC) sameOs bareS
          obtain ⟨oC, vC, eC, zC, dC⟩ := flC.there
          refine store_ok (X := X.suite x ((x, oC) :: (X.pn ++ pins))) (v := .ref x) (JC.suite eC dC free neL neF) hN hi (.inl hl) rfl (fun t5 S5 => ?_) (.inr hl)
          refine wpAny_mono ((su x oC cls d (X.pn ++ pins) zC ⟨_, dC⟩).run [] t5 _ H1 _ S5 (yes rfl x free)) (fun fl t6 got => ?_) (fun _ _ z => False.elim z)
          have bye : ∀ {σ6 : L2.St} {H6 : Hp} {Q : Shared → Prop}, Inv (X.suite x ((x, oC) :: (X.pn ++ pins))) [] σ6 H6 t6 → (∀ t7, Inv X pins (σ6.set i none) H6 t7 → Q t7) →
              wpAny (model X.prog X.w) X.A (do bindName X.env n .none; unbindBehindTheSuite X.env n p2) (fun _ t7 => Q t7) X.xe t6 := fun S6 hq => gone_ok (S6.unsuite OK) hN hi hl hq
          match fl, got with
          | .next, ⟨_, _, S6, q6⟩ => exact bye S6 fun t7 J7 => ⟨_, _, J7, q6⟩
          | .brk, ⟨_, _, S6, q6⟩ => exact bye S6 fun t7 J7 => ⟨_, _, J7, q6⟩
          | .cont, ⟨_, _, S6, q6⟩ => exact bye S6 fun t7 J7 => ⟨_, _, J7, q6⟩
          | .ret u, ⟨_, _, _, S6, r6, q6⟩ => exact bye S6 fun t7 J7 => ⟨_, _, _, J7, r6, q6⟩
        | false =>
          show wpAny _ X.A (handleBy (.ref x) X.env hs2) _ _ _
          exact ih (no rfl)
    exact all hh how
  · match fl, sp with
    | .next, ⟨σ', H', J', q⟩ => exact wpAny_execs_nil ⟨σ', H', J'.ofTry OK, q⟩
    | .brk, ⟨σ', H', J', q⟩ => exact ⟨σ', H', J'.ofTry OK, q⟩
    | .cont, ⟨σ', H', J', q⟩ => exact ⟨σ', H', J'.ofTry OK, q⟩
    | .ret u, ⟨v, σ', H', J', r, q⟩ => exact ⟨v, σ', H', J'.ofTry OK, r, q⟩
end
end TW

namespace TW
open PySem PySem.Spec PyProof.Rows L2
/-! ### w[i] of an own class, which may raise -/
section
variable {X : Cx} {CX : CXT} {k k' : Nat} {C : Addr} {ps : List Str} {sp : Sp} {E : L2.St → XK} {a b : Expr} {ta tb : TE} {pos : Pos}
def tOwnIxS (C : Addr) (sp : Sp) (E : L2.St → XK) (ta tb : TE) : TE := fun σ H Q => ta σ H fun x H1 => tb σ H1 fun y H2 => rOwnIx C sp (E σ) x y H2 Q
theorem run_fn1S {f : Addr} {fd : FuncData} {ds : List Value} {dvs : List V} {pins : List (Addr × Obj)} {σ : L2.St} {H : Hp} {s : Shared} {Q : VK} {us : List Value} {vs : List V} (F : FnOk X.prog X.w X.K X.mg X.base CX k f fd ps sp) (hr : Room k X.A.in1) (hb : Binds X.K fd ps ds) (hd : Vals dvs ds)
    (hx : PassesAt CX X σ (E σ)) (I : Inv X pins σ H s) (r : Vals vs us) (h : sp (vs ++ dvs) H Q (E σ)) : wpAny (model X.prog X.w) X.A.in1 (call (.ref f) us) (EP X pins σ Q) X.xe s := by
  have r2 := r.append hd
  have hl : (us ++ ds).length = ps.length := r2.length.symm.trans (F.len _ _ _ _ h)
  refine wpAny_call (codeAny_mono (F.run X.A.in1 X.stack s H ⟨us, []⟩ (us ++ ds) (vs ++ dvs) Q (E σ) hr I.env0.in1 (hb s us I.kIn hl) r2 h) fun z s' hq => ?_)
  match z, hq with
  | .error e, hq => exact hx pins H s e s' I hq
  | .ok (.ret u), hq => exact I.after hq
theorem pe_ownIxS (D : MethOk X.prog X.w X.K X.mg X.base CX k C "__getitem__" ps [] sp) (hfn : ∀ f, PySem.W.findIn X.K (.ref C) "__getitem__" = some (some (.ref f)) → PySem.W.fnIn X.K f = true) (hr : Room k' X.A) (hx : ∀ σ, PassesAt CX X σ (E σ)) (ha : PE X a ta) (hb : PE X b tb)
    (hk : k + 1 ≤ k' := by decide) (hs : ∀ (x : Addr) (i : Value), subscripted b true (.ref x) i = runValue (.builtin "lifetime.subscript" ⟨[.ref x, i], []⟩) := by intro _ _; with_unfolding_all rfl) : PE X (.Subscript a b pos) (tOwnIxS C sp E ta tb) := by
  obtain ⟨f, fd, ds, hM, hbi, hd, F⟩ := D
  refine ⟨fun pins s σ H Q I h => ?_⟩
  refine Subscript_ (binT ha hb I h fun v u s2 x y H2 I2 rx ry q => ?_)
  obtain ⟨p, d1, f1, i, rfl, rfl, ea, q⟩ := q
  cases rx
  obtain ⟨t, rfl⟩ := ry
  obtain ⟨mA, oA, _, _, _, _⟩ := ins_get I2.hok ea
  obtain ⟨odA, IA, _⟩ := oA.look
  obtain ⟨mf, fr⟩ := I2.fr
  refine PySem.W.sub_K fr I2.ok.mod.kin IA hM.at_ (hfn f hM.at_) hM.fn ?_ (hs p _)
  exact run_fn1S (vs := [.ref p, .int i]) F (hr.mono hk).in1 hbi hd (hx σ) I2 (.cons rfl (.cons ⟨t, rfl⟩ .nil)) q
end
end TW

namespace TW
open PySem PySem.Spec PyProof.Rows L2
/-! ### str(x) by an own __str__ -/
section
variable {X : Cx} {CX : CXT} {k k' : Nat} {C : Addr} {ps : List Str} {sp : Sp} {E : XK} {f : Addr} {fd : FuncData} {ds : List Value} {dvs : List V}
theorem room2 {k : Nat} {A : Around} (r : Room (k + 2) A) : Room k A.in1.in1 := (L2.Room.in1 r).in1
theorem run_fn2 {pins : List (Addr × Obj)} {σ : L2.St} {H : Hp} {s : Shared} {Q : VK} {us : List Value} {vs : List V} (F : FnOk X.prog X.w X.K X.mg X.base CX k f fd ps sp) (hr : Room k X.A.in1.in1) (hb : Binds X.K fd ps ds) (hd : Vals dvs ds)
    (hx : Passes CX X E) (I : Inv X pins σ H s) (r : Vals vs us) (h : sp (vs ++ dvs) H Q E) : wpAny (model X.prog X.w) X.A.in1.in1 (call (.ref f) us) (EP X pins σ Q) X.xe s := by
  have r2 := r.append hd
  have hl : (us ++ ds).length = ps.length := r2.length.symm.trans (F.len _ _ _ _ h)
  refine wpAny_call (codeAny_mono (F.run X.A.in1.in1 X.stack s H ⟨us, []⟩ (us ++ ds) (vs ++ dvs) Q E hr I.env0.in1.in1 (hb s us I.kIn hl) r2 h) fun z s' hq => ?_)
  match z, hq with
  | .error e, hq => exact hx pins σ H s e s' I hq
  | .ok (.ret u), hq => exact I.after hq
def rStrOwn (C : Addr) (sp : Sp) (E : XK) : List V → Hp → VK → Prop := fun xs H Q => ∃ (a d1 : Addr) (f1 : List (Str × V)), xs = [.ref a] ∧ H a = some (.ins C d1 f1) ∧ sp [.ref a] H (fun v H' => ∃ y, v = .str y ∧ Q (.str y) H') E
theorem call_strOwn (D : MethOk X.prog X.w X.K X.mg X.base CX k C "__str__" ps [] sp) (hr : Room k' X.A) (hx : Passes CX X E) (hk : k + 2 ≤ k' := by decide) : CallR X (.type "str") (rStrOwn C sp E) := by
  obtain ⟨f, fd, ds, hM, hb, hd, F⟩ := D
  intro pins s σ H xs us Q I r h
  obtain ⟨a, d1, f1, rfl, ea, q⟩ := h
  cases r with
  | cons rx rr =>
    cases rr
    cases rx
    obtain ⟨mA, oA, _, _, _, _⟩ := ins_get I.hok ea
    obtain ⟨odA, IA, _⟩ := oA.look
    have hr2 := room2 (hr.mono hk)
    refine PySem.W.kso_call (by have := hr2.un; omega) I.kIn IA hM.at_ hM.fn ?_
    refine wpAny_mono (run_fn2 (vs := [.ref a]) F hr2 hb hd hx I (.cons rfl .nil) q) (fun z s' hz => ?_) fun _ _ z => z
    obtain ⟨v', H', I', r', y, rfl, q'⟩ := hz
    obtain ⟨t, rfl⟩ := r'
    exact ⟨.str y, H', I', ⟨t, rfl⟩, q'⟩
end
end TW

namespace TW
open PySem PySem.Spec PyProof.Rows L2
/-! ### C.m(e, ..), m a staticmethod -/
section
variable {X : Cx} {CX : CXT} {k k' : Nat} {C : Addr} {mc : Value} {m : Str} {ps : List Str} {dvs : List V} {sp : Sp} {E : XK} {e o : Expr} {es : List Expr} {ta : TE} {t : TA} {apos pos : Pos}
/-- the record at p, the def at g -/
structure SMet (K : PySem.W.Frag) (C : Addr) (mc : Value) (m : Str) (p g : Addr) : Prop where
  ty : PySem.W.typeIn K (.ref C) = some mc
  rd : PySem.W.readsIn K C mc = true
  ga : PySem.W.specialIn K (.ref C) "__getattribute__" = some (some (.builtin "type.__getattribute__"))
  at_ : PySem.W.findCls K (.ref C) mc m = some (.get (.builtin "staticmethod.__get__") (.ref p) .none (.ref C))
  rc : ∃ rest, PySem.W.recIn K p "staticmethod" = some (.ref g :: rest)
  kp : PySem.W.keepIn K (.ref g) = true
def StatOk (P : Program) (w : World) (K : PySem.W.Frag) (mg : Str → Option Value) (base : Heap) (CX : CXT) (k : Nat) (C : Addr) (m : Str) (ps : List Str) (dvs : List V) (sp : Sp) : Prop :=
  ∃ (mc : Value) (p g : Addr) (fd : FuncData) (ds : List Value), SMet K C mc m p g ∧ Binds K fd ps ds ∧ Vals dvs ds ∧ FnOk P w K mg base CX k g fd ps sp
def tStat (C : Addr) (sp : Sp) (dvs : List V) (E : XK) (ta : TE) (t : TA) : TE := fun σ H Q => ta σ H fun x H1 => x = .ref C ∧ t σ H1 fun vs H2 => sp (vs ++ dvs) H2 Q E
theorem pe_stat {pl : Sem Bool} (D : StatOk X.prog X.w X.K X.mg X.base CX k C m ps dvs sp) (hr : Room k' X.A) (hx : Passes CX X E) (he : PE X o ta) (ha : PA X (e :: es) t) (hk : k ≤ k' := by decide)
    (hst : starEach (e :: es) X.env = (false, eval e X.env) :: starEach es X.env := by rfl) (hpl : (backTo pos (starEach es X.env)).any (·.1) = false := by rfl)
    (ht : eval (.Call (.Attribute o m apos) (e :: es) [] pos) X.env = (do
      let ov ← eval o X.env
      standAt apos.atName
      let (f, first) ← holding [ov] (getMethod ov m pl)
      callWith pos f first (backTo pos (starEach (e :: es) X.env)) (backToKw pos (keywordEach [] X.env))) := by rfl) :
    PE X (.Call (.Attribute o m apos) (e :: es) [] pos) (tStat C sp dvs E ta t) := by
  obtain ⟨mc, p, g, fd, ds, c, hb, hd, F⟩ := D
  refine ⟨fun pins s σ H Q I h => ?_⟩
  refine PySem.W.methodCall_KW (pl := pl) (thn (he.run pins s σ H _ I h) fun u s1 ⟨x, H1, I1, rx, ex, q⟩ => ?_) ht
  subst ex
  obtain rfl : u = Value.ref C := rx
  obtain ⟨rest, hp⟩ := c.rc
  obtain ⟨mf, fr⟩ := I1.fr
  refine PySem.W.method_cls I1.kIn c.ga (PySem.W.cls_sm fr I1.ok.mod.kin c.ty c.rd c.at_ hp rfl ?_)
  refine PySem.W.callWith_K (h₀ := X.base) I1.ok.mod.kin c.kp (thn (ha.run pos pins _ σ H1 _ (I1.tok _) q) fun us s2 ⟨vs, H2, I2, rv, q2⟩ => ⟨I2.kIn, ?_⟩) hst hpl
  exact run_fn F (hr.mono hk) hb hd hx I2 rv q2
end
end TW

namespace TW
open PySem PySem.Spec PyProof.Rows L2
/-! ### a dict comprehension over any walk -/
section
variable {J : It} {n : Nat} {G : Hp → Prop} {Y : Nat → Hp → V → Hp → Prop}
theorem dc_walk (w : Walk J n G Y) {g : TG} {tt : TT} {tk tv : TE} {vs : List Nat} {σ : L2.St} {H1 : Hp} {D : Addr} {Qd : Hp → Prop} (Pv : Nat → Hp → Prop) (start : Pv 0 (upd H1 D (.dK []))) (hG : ∀ i H, i ≤ n → Pv i H → G H)
    (step : ∀ i x H H', i < n → Pv i H → Y i H x H' → g x (wipe σ vs) H' fun σ2 H2 => wipe σ2 vs = wipe σ vs ∧ tt σ2 H2 fun b H3 =>
      if b = true then tk σ2 H3 fun y H4 => tv σ2 H4 fun z H5 => ∃ kvs k, y = kV k ∧ H5 D = some (.dK kvs) ∧ kvs.length < sizeLine ∧ Pv (i + 1) (upd H5 D (.dK (putK kvs k z))) else Pv (i + 1) H3) (done : ∀ H, Pv n H → Qd H) :
    ∃ W : Nat → Nat → Hp → Prop, (∃ m, W 0 m (upd H1 D (.dK []))) ∧ ∀ i m H, W i m H →
      (J.stop i H ∧ Qd H) ∨ (J.go i H ∧ ∃ Nx : Hp → Prop, (∀ H', Nx H' → ∃ m', m' < m ∧ W (i + 1) m' H') ∧ ∀ x H', J.yld i H x H' → g x (wipe σ vs) H' fun σ2 H2 => wipe σ2 vs = wipe σ vs ∧ tt σ2 H2 fun b H3 =>
        if b = true then tk σ2 H3 fun y H4 => tv σ2 H4 fun z H5 => ∃ kvs k, y = kV k ∧ H5 D = some (.dK kvs) ∧ kvs.length < sizeLine ∧ Nx (upd H5 D (.dK (putK kvs k z))) else Nx H3) := by
  refine ⟨fun i m H => m = n - i ∧ i ≤ n ∧ Pv i H, ⟨n, by simp, Nat.zero_le _, start⟩, ?_⟩
  rintro i m H ⟨em, le, pv⟩
  subst em
  rcases Nat.lt_or_ge i n with lt | ge
  · exact .inr ⟨w.goes i H lt (hG i H le pv), Pv (i + 1), fun H' pv' => ⟨n - (i + 1), by omega, rfl, lt, pv'⟩, fun x H' y => step i x H H' lt pv (w.yields i H x H' lt (hG i H le pv) y)⟩
  · have ei : i = n := by omega
    subst ei
    exact .inl ⟨w.stops H (hG i H le pv), done H pv⟩
end
end TW

namespace TW
open PySem PySem.Spec PyProof.Rows L2
/-! ### the text by places -/
def top (i : Nat) : Stmt := PySem.Challenge.pw_turnwires_k02_wires.main.body.getD i (.Pass ⟨0, 0, 0, 0⟩)
/-! ### values -/
def nv (n : Nat) : V := .int (n : Int)
theorem same_upd {H : Hp} {p : Addr} {o : HO} (h : H p = none) : Same H (upd H p o) := fun b x e => by rw [upd_ne (ne_of_none e h)]; exact e
/-- an object that was not tracked ahead may change -/
theorem mutS {H H' : Hp} {p : Addr} {o : HO} (e : Same H H') (h : H p = none) : Same H (upd H' p o) := fun a u ha => by rw [upd_ne (ne_of_none ha h)]; exact e a u ha
theorem small64 {n : Nat} (h : n ≤ 100000) : n < sizeLine := Nat.lt_of_le_of_lt h (by decide)
theorem nv_get {l : List Nat} {i : Nat} {x : Nat} (h : l[i]? = some x) : (l.map nv)[i]? = some (nv x) := by rw [List.getElem?_map, h]; rfl
theorem of_nv_get {l : List Nat} {i : Nat} {y : V} (h : (l.map nv)[i]? = some y) : ∃ x, l[i]? = some x ∧ y = nv x := by
  rw [List.getElem?_map] at h
  cases e : l[i]? with
  | none => rw [e] at h; cases h
  | some x => rw [e] at h; exact ⟨x, rfl, (Option.some.inj h).symm⟩
theorem of_int_get {l : List Int} {i : Nat} {y : V} (h : (l.map V.int)[i]? = some y) : ∃ x, l[i]? = some x ∧ y = V.int x := by
  rw [List.getElem?_map] at h
  cases e : l[i]? with
  | none => rw [e] at h; cases h
  | some x => rw [e] at h; exact ⟨x, rfl, (Option.some.inj h).symm⟩
theorem decT {p : Prop} [Decidable p] {A B : Prop} (h : p) (a : A) : if (decide p) = true then A else B := by rw [decide_eq_true h]; exact iteT a
theorem decF {p : Prop} [Decidable p] {A B : Prop} (h : ¬ p) (b : B) : if (decide p) = true then A else B := by rw [decide_eq_false h]; exact iteF b
theorem yesT {σ : L2.St} {H : Hp} {A B : Hp → Prop} (h : A H) : tYes σ H (fun b H1 => if b = true then A H1 else B H1) := by
  show (if true = true then A H else B H)
  exact iteT h
/-- built-in names that the module leaves alone -/
structure Blt (mg : Str → Option Value) : Prop where
  len : mg "len" = none
  range : mg "range" = none
  int : mg "int" = none
  list : mg "list" = none
  enumerate : mg "enumerate" = none
  dict : mg "dict" = none
  zip : mg "zip" = none
  set : mg "set" = none
  sorted : mg "sorted" = none
  all : mg "all" = none
  abs : mg "abs" = none
  isinstance : mg "isinstance" = none
  bool : mg "bool" = none
section
variable {P : Program} {w : World} {K : PySem.W.Frag} {mg : Str → Option Value} {base : Heap}
/-! ### _law_cell: some int -/
abbrev s_l_cell : Stmt := top 37
theorem sc_l_cell : FnScope ["_law_script", "_law_k"] ["_law_script", "_law_k"] (defScope s_l_cell) := ⟨rfl, rfl, rfl, by decide +kernel, rfl, by decide +kernel, by decide +kernel⟩

def spCell (K : PySem.W.Frag) : Sp := fun vs H Q _ => ∃ (a : Addr) (ns : List Int) (k : Nat), vs = [.ref a, nv k] ∧ SqL K H a (ns.map V.int) ∧ ∀ z : Int, Q (.int z) H
theorem ok_cell {f : Addr} {fd : FuncData} (F : Fun K "_law_cell" "_law_cell" s_l_cell f fd) (T : Blt mg) : FnOk P w K mg base CX0 1 f fd ["_law_script", "_law_k"] (spCell K) := by
  refine F.ok sc_l_cell (fun vs H Q E h => ?_) (fun cdv A outer s H vs Q E hr h => ?_)
  · obtain ⟨a, ns, k, rfl, _⟩ := h; rfl
  · obtain ⟨a, ns, k, rfl, hS, q⟩ := h
    refine ⟨_, (pss_cons (ps_if (pt_cmpR op_lt (pv 1) (pe_callB call_len_seq (by rfl) T.len PySem.boot_len (pa_cons (pv 0) pa_nil)) (nomark _)) (pss_one (ps_ret (pe_ix ix_list (pv 0) (pv 1) (fun _ _ => rfl)))) pss_nil)
    (pss_one (ps_ret pe_int))), ?_⟩
    refine ⟨_, rfl, .ref a, rfl, a, _, rfl, .inl hS, _, _, rfl, rfl, _, rfl, ?_⟩
    by_cases c : k < ns.length
    · refine decT (by rw [List.length_map]; omega) ?_
      obtain ⟨z, hz⟩ : ∃ z, ns[k]? = some z := ⟨ns[k], List.getElem?_eq_getElem c⟩
      exact ⟨.ref a, rfl, _, rfl, a, _, _, _, rfl, rfl, hS, atI_nat (by rw [List.getElem?_map, hz]; rfl), q z⟩
    · refine decF (by rw [List.length_map]; omega) ?_
      exact q 0
end
section
variable {P : Program} {w : World} {K : PySem.W.Frag} {mg : Str → Option Value} {base : Heap}
/-! ### _law_row: a draw below each of the sizes -/
abbrev s_l_row : Stmt := top 38
theorem sc_l_row : FnScope ["_law_cell_here", "_law_sizes", "_law_out", "_law_size_here", "_law_seed", "_law_k", "_law_mixed"] ["_law_cell_here", "_law_sizes"] (defScope s_l_row) := ⟨rfl, rfl, rfl, by decide +kernel, rfl, by decide +kernel, by decide +kernel⟩

/-- the draws ds below the sizes ms, as far as they go -/
def Below (ds ms : List Nat) : Prop := ∀ (i d m : Nat), ds[i]? = some d → ms[i]? = some m → d < m
theorem Below.snoc {ds ms : List Nat} {d m : Nat} (h : Below ds ms) (hm : ms[ds.length]? = some m) (hd : d < m) : Below (ds ++ [d]) ms := by
  intro i e n he hn
  rw [List.getElem?_append] at he
  by_cases c : i < ds.length
  · rw [if_pos c] at he; exact h i e n he hn
  · rw [if_neg c] at he
    have hi : i - ds.length = 0 := by
      cases k : i - ds.length with
      | zero => rfl
      | succ j => rw [k] at he; simp at he
    rw [hi] at he
    have e1 : d = e := Option.some.inj he
    have e2 : i = ds.length := by omega
    rw [e2, hm] at hn
    rw [← e1, ← Option.some.inj hn]
    exact hd
def spRow (K : PySem.W.Frag) : Sp := fun vs H Q _ => ∃ (c : Int) (a : Addr) (ms : List Nat), vs = [.int c, .ref a] ∧ SqL K H a (ms.map nv) ∧ (∀ m ∈ ms, 0 < m ∧ m < 2 ^ 24) ∧ ms.length ≤ 1000 ∧
  ∀ (ds : List Nat) (p : Addr) (H' : Hp), Same H H' → H p = none → H' p = some (.lst (ds.map nv)) → ds.length = ms.length → Below ds ms → Q (.ref p) H'
theorem nat_int {z : Int} (h : 0 ≤ z) : V.int z = nv z.toNat := by
  show V.int z = V.int (z.toNat : Int)
  rw [Int.toNat_of_nonneg h]
theorem ok_row {f : Addr} {fd : FuncData} (F : Fun K "_law_row" "_law_row" s_l_row f fd) (T : Blt mg) : FnOk P w K mg base CX0 1 f fd ["_law_cell_here", "_law_sizes"] (spRow K) := by
  refine F.ok sc_l_row (fun vs H Q E h => ?_) (fun cdv A outer s H vs Q E hr h => ?_)
  · obtain ⟨c, a, ms, rfl, _⟩ := h; rfl
  · obtain ⟨c, a, ms, rfl, hS, hm, hlen, q⟩ := h
    refine ⟨_, (pss_cons (ps_set (i := 2) sc_l_row.nd rfl (.inl rfl) (pe_lst pa_nil))
    (pss_cons (ps_if (pt_cmpR op_ge (pv 0) (pe_op op_pow pe_int pe_int) (nomark _)) (pss_cons (ps_for PassesOwn.never rfl (pi_list (pv 1)) (pg_name (i := 3) sc_l_row.nd rfl (.inl rfl)) (pss_cons (ps_expr (pe_bm PySem.F.plainAttrs_list PySem.F.slot_list_append PySem.F.type_list_append mt_append (pv 2) (pa_cons (pe_op op_mod (pe_callTy call_int1 (by rfl) T.int (by decide +kernel) (pa_cons (pv 0) pa_nil)) (pv 3)) pa_nil)))
    (pss_one (ps_set (i := 0) sc_l_row.nd rfl (.inl rfl) (pe_op op_fdiv (pv 0) (pv 3))))))
    (pss_one (ps_ret (pv 2)))) pss_nil)
    (pss_cons (ps_set (i := 4) sc_l_row.nd rfl (.inl rfl) (pe_op op_mod (pe_callTy call_int1 (by rfl) T.int (by decide +kernel) (pa_cons (pv 0) pa_nil)) pe_int))
    (pss_cons (ps_for PassesOwn.never rfl (pi_range1 (by rfl) T.range (pa_cons (pe_callB call_len_seq (by rfl) T.len PySem.boot_len (pa_cons (pv 1) pa_nil)) pa_nil)) (pg_name (i := 5) sc_l_row.nd rfl (.inl rfl)) (pss_cons (ps_set (i := 6) sc_l_row.nd rfl (.inl rfl) (pe_op op_add (pe_op op_mod (pe_callTy call_int1 (by rfl) T.int (by decide +kernel) (pa_cons (pe_op op_pow (pe_op op_add (pe_op op_add (pv 4) (pe_op op_mul pe_int (pv 5))) pe_int) pe_int) pa_nil)) pe_int) (pv 5)))
    (pss_one (ps_expr (pe_bm PySem.F.plainAttrs_list PySem.F.slot_list_append PySem.F.type_list_append mt_append (pv 2) (pa_cons (pe_op op_mod (pe_callTy call_int1 (by rfl) T.int (by decide +kernel) (pa_cons (pe_op op_mod (pe_callTy call_int1 (by rfl) T.int (by decide +kernel) (pa_cons (pe_op op_mul (pv 6) pe_int) pa_nil)) pe_int) pa_nil)) (pe_ix ix_list (pv 1) (pv 5) (fun _ _ => rfl))) pa_nil))))))
    (pss_one (ps_ret (pv 2))))))), ?_⟩
    -- out = []
    refine ⟨Nat.zero_le _, fun o no => ?_⟩
    have s1 : Same H (upd H o (.lst [])) := same_upd no
    refine ⟨_, rfl, _, _, rfl, rfl, ⟨by decide, by decide, by decide⟩, _, _, rfl, rfl, _, rfl, ?_⟩
    refine ite2 (fun cc => ?_) (fun cc => ?_)
    · -- the great cell
      refine ⟨_, rfl, a, rfl, ⟨_, s1.seq hS⟩, for_list (K := K) (a := a) (xs := ms.map nv) (fun i σ H1 => ∃ (z : Int) (v : Option V) (ds : List Nat), σ = [some (.int z), some (.ref a), some (.ref o), v, none, none, none] ∧ Same H H1 ∧ H1 o = some (.lst (ds.map nv)) ∧ ds.length = i ∧ Below ds ms)
        ⟨c, none, [], rfl, s1, upd_same, rfl, fun i d m h => by simp at h⟩ (fun i σ H1 _ ⟨_, _, _, _, s2, _⟩ => s2.seq hS) ?_ ?_⟩
      · rintro i y σ H1 hi ⟨z, v, ds, rfl, s2, ho, hl, hb⟩
        obtain ⟨m, hmi, rfl⟩ := of_nv_get hi
        obtain ⟨m0, m1⟩ := hm m (List.mem_of_getElem? hmi)
        have h0 : 0 ≤ z % (m : Int) := Int.emod_nonneg _ (by omega)
        have h1 : z % (m : Int) < m := Int.emod_lt_of_pos _ (by omega)
        have hli : i < ms.length := (List.getElem?_eq_some_iff.mp hmi).1
        refine ⟨_, rfl, .inl ⟨rfl, _, .inl (.inl ho)⟩, _, rfl, .inl ⟨z, rfl, _, rfl, _, _, rfl, rfl, (by show (0 : Int) < m; omega), o, _, _, rfl, rfl, ho, small64 (by rw [List.length_map]; omega), ?_⟩⟩
        refine ⟨_, rfl, _, rfl, _, _, rfl, rfl, ⟨by omega, by omega⟩, ?_⟩
        refine ⟨z / m, _, ds ++ [(z % (m : Int)).toNat], rfl, mutS s2 no, ?_, by rw [List.length_append, hl]; rfl, hb.snoc (by rw [hl]; exact hmi) (by omega)⟩
        dsimp only
        rw [upd_same, List.map_append, nat_int h0]
        rfl
      · rintro σ H1 ⟨z, v, ds, rfl, s2, ho, hl, hb⟩
        exact ⟨_, rfl, q ds o H1 s2 no ho (by rw [hl, List.length_map]) hb⟩
    · -- seed
      refine ⟨_, rfl, .inl ⟨c, rfl, _, _, rfl, rfl, (by show (0 : Int) < 2147483647; decide), ?_⟩⟩
      dsimp only
      have g0 : 0 ≤ c % (2147483647 : Int) := Int.emod_nonneg _ (by decide)
      have g1 : c % (2147483647 : Int) < 2147483647 := Int.emod_lt_of_pos _ (by decide)
      generalize c % (2147483647 : Int) = sd at g0 g1
      refine ⟨.ref a, rfl, a, _, rfl, .inl (s1.seq hS), ((ms.map nv).length : Int), rfl, by omega, by rw [List.length_map]; omega, ?_⟩
      rw [Int.toNat_natCast, List.length_map]
      refine for_range (lo := 0) (n := ms.length) (fun i σ H1 => ∃ (v1 v2 : Option V) (ds : List Nat), σ = [some (.int c), some (.ref a), some (.ref o), none, some (.int sd), v1, v2] ∧ Same H H1 ∧ H1 o = some (.lst (ds.map nv)) ∧ ds.length = i ∧ Below ds ms)
        ⟨none, none, [], rfl, s1, upd_same, rfl, fun i d m h => by simp at h⟩ ?_ ?_
      · rintro i σ H1 hi ⟨v1, v2, ds, rfl, s2, ho, hl, hb⟩
        obtain ⟨m, hmi⟩ : ∃ m, ms[i]? = some m := ⟨ms[i], List.getElem?_eq_getElem hi⟩
        obtain ⟨m0, m1⟩ := hm m (List.mem_of_getElem? hmi)
        rw [Int.zero_add]
        refine ⟨_, rfl, _, rfl, _, _, rfl, rfl, .inl ⟨by decide, by decide⟩, _, _, rfl, rfl, _, _, rfl, rfl, _, _, rfl, rfl, ⟨by decide, by decide, by omega⟩, .inl ⟨_, rfl, _, _, rfl, rfl, (by show (0 : Int) < 2147483647; decide), _, rfl, _, _, rfl, rfl, ?_⟩⟩
        dsimp only
        generalize hX : (sd + 7919 * (i : Int) + 104729) ^ (5 : Int).toNat = x
        have x0 : 0 ≤ x % (2147483647 : Int) := Int.emod_nonneg _ (by decide)
        have x1 : x % (2147483647 : Int) < 2147483647 := Int.emod_lt_of_pos _ (by decide)
        generalize x % (2147483647 : Int) = y at x0 x1
        refine ⟨_, rfl, .inl ⟨rfl, _, .inl (.inl ho)⟩, _, rfl, _, _, rfl, rfl, .inl ⟨by omega, by omega⟩, .inl ⟨_, rfl, _, _, rfl, rfl, (by show (0 : Int) < 2147483629; decide), .inl ⟨_, rfl, .ref a, rfl, _, rfl, a, _, _, _, rfl, rfl, s2.seq hS, atI_nat (nv_get hmi), ?_⟩⟩⟩
        have h0 : 0 ≤ (y + (i : Int)) * 40692 % 2147483629 % (m : Int) := Int.emod_nonneg _ (by omega)
        have h1 : (y + (i : Int)) * 40692 % 2147483629 % (m : Int) < m := Int.emod_lt_of_pos _ (by omega)
        refine ⟨_, _, rfl, rfl, (by omega), o, _, _, rfl, rfl, ho, small64 (by rw [List.length_map]; omega), ?_⟩
        refine ⟨_, _, ds ++ [((y + (i : Int)) * 40692 % 2147483629 % (m : Int)).toNat], rfl, mutS s2 no, ?_, by rw [List.length_append, hl]; rfl, hb.snoc (by rw [hl]; exact hmi) (by omega)⟩
        dsimp only
        rw [upd_same, List.map_append, nat_int h0]
        rfl
      · rintro σ H1 ⟨v1, v2, ds, rfl, s2, ho, hl, hb⟩
        exact ⟨_, rfl, q ds o H1 s2 no ho hl hb⟩
end
section
variable {P : Program} {w : World} {K : PySem.W.Frag} {mg : Str → Option Value} {base : Heap}
/-! ### _law_drawn: a list of the places below n, each once -/
abbrev s_l_drawn : Stmt := top 39
theorem sc_l_drawn : FnScope ["_law_cell_here", "_law_n", "_law_left", "_law_draw", "_law_k"] ["_law_cell_here", "_law_n"] (defScope s_l_drawn) := ⟨rfl, rfl, rfl, by decide +kernel, rfl, by decide +kernel, by decide +kernel⟩

def spDrawn : Sp := fun vs H Q _ => ∃ (c : Int) (n : Nat), vs = [.int c, nv n] ∧ n ≤ 100 ∧
  ∀ (im : List Nat) (p : Addr) (H' : Hp), Same H H' → H p = none → H' p = some (.lst (im.map nv)) → IsPerm im → im.length = n → Q (.ref p) H'
theorem rgV_nat (n : Nat) : rgV 0 (n : Int) = (List.range n).map nv := by
  unfold rgV
  rw [show ((n : Int) - 0).toNat = n by omega]
  refine List.map_congr_left fun i _ => ?_
  show V.int (0 + (i : Int)) = V.int i
  rw [Int.zero_add]
theorem ok_drawn {f : Addr} {fd : FuncData} (F : Fun K "_law_drawn" "_law_drawn" s_l_drawn f fd) (T : Blt mg) (D_l_row : DefOk P w K mg base CX0 1 "_law_row" ["_law_cell_here", "_law_sizes"] [] (spRow K)) :
    FnOk P w K mg base CX0 2 f fd ["_law_cell_here", "_law_n"] spDrawn := by
  refine F.ok sc_l_drawn (fun vs H Q E h => ?_) (fun cdv A outer s H vs Q E hr h => ?_)
  · obtain ⟨c, n, rfl, _⟩ := h; rfl
  · obtain ⟨c, n, rfl, hn, q⟩ := h
    refine ⟨_, (pss_cons (ps_set (i := 2) sc_l_drawn.nd rfl (.inr rfl) (pe_listRg rfl (by rfl) T.list (prg_1 (by rfl) T.range (pv 1))))
    (pss_one (ps_ret (pe_lc (own := [("_law_draw", 3)]) (tt := tYes) (te := tBM K "list" rPopAt (tVar 2) (tCons (tVar 3) tNil)) rfl sc_l_drawn.nd (pi_list (pe_d D_l_row hr pass0 (pa_cons (pv 0) (pa_cons (pe_lc (own := [("_law_k", 4)]) (tt := tYes) rfl sc_l_drawn.nd (pi_range1 (by rfl) T.range (pa_cons (pv 1) pa_nil)) (blkOk_by (N := ["_law_cell_here", "_law_n", "_law_left", "_law_draw", "_law_k"]) (sc := defScope s_l_drawn) (by decide +kernel)) (fun _ _ _ _ _ => (pg_name (i := 4) sc_l_drawn.nd rfl (.inl rfl))) (fun _ _ _ _ _ => pts_nil) (fun _ _ _ _ _ => by exact (pe_op op_sub (pv 1) (pv 4)))) pa_nil)))) (blkOk_by (N := ["_law_cell_here", "_law_n", "_law_left", "_law_draw", "_law_k"]) (sc := defScope s_l_drawn) (by decide +kernel)) (fun _ _ _ _ _ => (pg_name (i := 3) sc_l_drawn.nd rfl (.inl rfl))) (fun _ _ _ _ _ => pts_nil) (fun _ _ _ _ _ => by exact (pe_bm PySem.F.plainAttrs_list PySem.F.slot_list_pop PySem.F.type_list_pop mt_popAt (pv 2) (pa_cons (pv 3) pa_nil))))))), ?_⟩
    -- _law_left = list(range(_law_n))
    refine ⟨_, rfl, _, rfl, ⟨by omega, by omega, by omega, by omega, by omega⟩, fun L nL => ?_⟩
    rw [rgV_nat]
    have s1 : Same H (upd H L (.lst ((List.range n).map nv))) := same_upd nL
    -- the sizes
    refine ⟨_, rfl, _, rfl, _, rfl, by omega, by omega, fun D nD => ?_⟩
    rw [Int.toNat_natCast]
    refine lc_range (lo := 0) (n := n) (fun i H1 => Same (upd H L (.lst ((List.range n).map nv))) H1 ∧ H1 D = some (.lst ((((List.range n).map fun k => n - k).take i).map nv))) ⟨same_upd nD, upd_same⟩ ?_ ?_
    · rintro i H1 hi ⟨s2, hD⟩
      rw [Int.zero_add]
      refine ⟨rfl, ?_⟩
      refine yesT ?_
      refine ⟨_, rfl, _, rfl, _, _, rfl, rfl, _, hD, small64 (by rw [List.length_map, List.length_take]; omega), mutS s2 nD, ?_⟩
      have e : ((List.range n).map fun k => n - k)[i]? = some (n - i) := by rw [List.getElem?_map, List.getElem?_range hi]; rfl
      rw [upd_same, List.take_add_one, e, List.map_append]
      dsimp only
      rw [show (n : Int) - (i : Int) = ((n - i : Nat) : Int) by omega]
      rfl
    · rintro H1 ⟨s2, hD⟩
      rw [List.take_of_length_le (by rw [List.length_map, List.length_range]; exact Nat.le_refl _)] at hD
      have nLD : L ≠ D := ne_of_none (H := upd H L (.lst ((List.range n).map nv))) upd_same nD
      refine ⟨c, D, (List.range n).map fun k => n - k, rfl, SqL.of hD, fun m hm => ?_, by rw [List.length_map, List.length_range]; omega, fun ds p H2 s3 np hp hl hb => ?_⟩
      · obtain ⟨k, hk, rfl⟩ := List.mem_map.mp hm
        have := List.mem_range.mp hk
        omega
      rw [List.length_map, List.length_range] at hl
      have s4 : Same (upd H L (.lst ((List.range n).map nv))) H2 := s2.trans s3
      have hL2 : H2 L = some (.lst ((List.range n).map nv)) := s4 L _ upd_same
      have nLp : L ≠ p := ne_of_none (s2 L _ upd_same) np
      -- the draws
      refine ⟨p, rfl, ⟨_, SqL.of hp⟩, fun O nO => ?_⟩
      have nOL : L ≠ O := ne_of_none hL2 nO
      have nOp : p ≠ O := ne_of_none hp nO
      refine lc_list (K := K) (a := p) (xs := ds.map nv) (fun i H3 => ∃ im rest : List Nat, Same H H3 ∧ H3 p = some (.lst (ds.map nv)) ∧ H3 L = some (.lst (rest.map nv)) ∧ H3 O = some (.lst (im.map nv)) ∧ im.length = i ∧ rest.length + i = n ∧ (im ++ rest).Perm (List.range n))
        ⟨[], List.range n, (s1.trans s4).trans (same_upd nO), by rw [upd_ne nOp]; exact hp, by rw [upd_ne nOL]; exact hL2, upd_same, rfl, by rw [List.length_range]; rfl, List.Perm.refl _⟩ (fun i H3 _ ⟨_, _, _, h, _⟩ => SqL.of h) ?_ ?_
      · rintro i y H3 hi ⟨im, rest, s5, h1, h2, h3, l1, l2, pm⟩
        obtain ⟨d, hd, rfl⟩ := of_nv_get hi
        have hin : i < n := by
          have := (List.getElem?_eq_some_iff.mp hd).1
          omega
        have hdn : d < n - i := hb i d (n - i) hd (by rw [List.getElem?_map, List.getElem?_range hin]; rfl)
        obtain ⟨x, hx⟩ : ∃ x, rest[d]? = some x := ⟨rest[d]'(by omega), List.getElem?_eq_getElem (by omega)⟩
        have hel := erase_len hx
        refine ⟨rfl, ?_⟩
        refine yesT ?_
        refine ⟨.ref L, rfl, .inl ⟨rfl, _, .inl (.inl h2)⟩, _, rfl, L, _, _, d, _, rfl, rfl, h2, by omega, by omega, ?_, nv_get hx, im.map nv, ?_, small64 (by rw [List.length_map, l1]; omega), im ++ [x], rest.eraseIdx d, ?_⟩
        · rw [seqIndex_of (by omega) (by rw [List.length_map]; omega), Int.toNat_natCast]
        · rw [upd_ne nOL.symm]; exact h3
        refine ⟨?_, ?_, ?_, ?_, by rw [List.length_append, l1]; rfl, by omega, draw_step pm hx⟩
        · exact mutS (mutS s5 nL) ((s1.trans s4).free nO)
        · rw [upd_ne nOp, upd_ne nLp.symm]; exact h1
        · rw [upd_ne nOL, upd_same, erase_map]
        · rw [upd_same, List.map_append]; rfl
      · rintro H3 ⟨im, rest, s5, h1, h2, h3, l1, l2, pm⟩
        rw [List.length_map, hl] at l1 l2
        have er : rest = [] := List.length_eq_zero_iff.mp (by omega)
        rw [er, List.append_nil] at pm
        obtain ⟨ip, il⟩ := isPerm_of pm
        exact q im O H3 s5 ((s1.trans s4).free nO) h3 ip il
/-! ### _law_size -/
abbrev s_l_size : Stmt := top 44
theorem sc_l_size : FnScope ["_law_draw"] ["_law_draw"] (defScope s_l_size) := ⟨rfl, rfl, rfl, by decide +kernel, rfl, by decide +kernel, by decide +kernel⟩

def spSize : Sp := fun vs H Q _ => ∃ d : Nat, vs = [nv d] ∧ ∀ n : Nat, 1 ≤ n → n ≤ 60 → Q (nv n) H
theorem ok_size {f : Addr} {fd : FuncData} (F : Fun K "_law_size" "_law_size" s_l_size f fd) : FnOk P w K mg base CX0 1 f fd ["_law_draw"] spSize := by
  refine F.ok sc_l_size (fun vs H Q E h => ?_) (fun cdv A outer s H vs Q E hr h => ?_)
  · obtain ⟨d, rfl, _⟩ := h; rfl
  · obtain ⟨d, rfl, q⟩ := h
    refine ⟨_, (pss_cons (ps_if (pt_cmpR op_eq (pe_op op_mod (pv 0) pe_int) pe_int (nomark _)) (pss_one (ps_ret (pe_op op_sub pe_int (pe_op op_mod (pe_op op_fdiv (pv 0) pe_int) pe_int)))) pss_nil)
    (pss_one (ps_ret (pe_op op_add pe_int (pe_op op_mod (pe_op op_fdiv (pv 0) pe_int) pe_int))))), ?_⟩
    refine ⟨_, rfl, _, _, rfl, rfl, (by show (0 : Int) < 8; decide), rfl, _, rfl, ite2 (fun _ => ?_) (fun _ => ?_)⟩
    · refine ⟨_, rfl, _, _, rfl, rfl, ⟨by decide, by decide⟩, _, _, rfl, rfl, (by show (0 : Int) < 9; decide), _, _, rfl, rfl, ?_⟩
      have e : V.int (60 - (d : Int) / 8 % 9) = nv (60 - d / 8 % 9) := by
        show V.int _ = V.int _
        congr 1
        omega
      show Q (V.int (60 - (d : Int) / 8 % 9)) H
      rw [e]
      exact q _ (by omega) (by omega)
    · refine ⟨_, rfl, _, _, rfl, rfl, ⟨by decide, by decide⟩, _, _, rfl, rfl, (by show (0 : Int) < 12; decide), _, _, rfl, rfl, ?_⟩
      exact q (1 + d / 8 % 12) (by omega) (by omega)
end
/-! ### lists of lists of places -/
structure Rg (H : Hp) (as : List Addr) (rs : List (List Nat)) : Prop where
  len : as.length = rs.length
  at_ : ∀ (i : Nat) (a : Addr) (r : List Nat), as[i]? = some a → rs[i]? = some r → H a = some (.lst (r.map nv))
theorem Rg.nil {H : Hp} : Rg H [] [] := ⟨rfl, fun i a r h _ => by simp at h⟩
theorem Rg.mono {H H' : Hp} {as : List Addr} {rs : List (List Nat)} (g : Rg H as rs) (s : Same H H') : Rg H' as rs := ⟨g.len, fun i a r h1 h2 => s _ _ (g.at_ i a r h1 h2)⟩
theorem Rg.know {H : Hp} {as : List Addr} {rs : List (List Nat)} (g : Rg H as rs) {a : Addr} (h : a ∈ as) : ∃ r : List Nat, H a = some (.lst (r.map nv)) := by
  obtain ⟨i, hi, e⟩ := List.mem_iff_getElem.mp h
  have hr : i < rs.length := by rw [← g.len]; exact hi
  exact ⟨rs[i], g.at_ i a _ (by rw [← e]; exact List.getElem?_eq_getElem hi) (List.getElem?_eq_getElem hr)⟩
theorem Rg.upd {H : Hp} {as : List Addr} {rs : List (List Nat)} (g : Rg H as rs) {p : Addr} {o : HO} (h : p ∉ as) : Rg (upd H p o) as rs := ⟨g.len, fun i a r h1 h2 => by
  rw [upd_ne (fun e => h (by rw [← e]; exact List.mem_of_getElem? h1))]
  exact g.at_ i a r h1 h2⟩
theorem Rg.snoc {H : Hp} {as : List Addr} {rs : List (List Nat)} (g : Rg H as rs) {a : Addr} {r : List Nat} (h : H a = some (.lst (r.map nv))) : Rg H (as ++ [a]) (rs ++ [r]) := by
  refine ⟨by rw [List.length_append, List.length_append, g.len]; rfl, fun i b q h1 h2 => ?_⟩
  rw [List.getElem?_append] at h1 h2
  by_cases c : i < as.length
  · rw [if_pos c] at h1
    rw [if_pos (by rw [← g.len]; exact c)] at h2
    exact g.at_ i b q h1 h2
  · rw [if_neg c] at h1
    rw [if_neg (by rw [← g.len]; exact c)] at h2
    cases k : i - as.length with
    | zero =>
      rw [k] at h1
      rw [← g.len, k] at h2
      have e1 : a = b := Option.some.inj h1
      have e2 : r = q := Option.some.inj h2
      rw [← e1, ← e2]
      exact h
    | succ j => rw [k] at h1; simp at h1
theorem all_flat (l : List Nat) : (l.map nv).all flatV = true := by
  rw [List.all_eq_true]
  intro x hx
  obtain ⟨y, _, rfl⟩ := List.mem_map.mp hx
  rfl
theorem inV_nv (p : Nat) (l : List Nat) : inV (nv p) (l.map nv) = decide (p ∈ l) := by
  unfold inV
  induction l with
  | nil => rfl
  | cons a l ih =>
    rw [List.map_cons, List.any_cons, ih]
    show ((a : Int) == (p : Int) || decide (p ∈ l)) = decide (p ∈ a :: l)
    by_cases c : p = a
    · subst c; simp
    · have : ((a : Int) == (p : Int)) = false := by
        rw [beq_eq_false_iff_ne]
        omega
      rw [this, Bool.false_or]
      simp [c]
section
variable {P : Program} {w : World} {K : PySem.W.Frag} {mg : Str → Option Value} {base : Heap}
/-! ### _law_rings -/
abbrev s_l_rings : Stmt := top 41
theorem sc_l_rings : FnScope ["_law_images", "_law_out", "_law_seen", "_law_place", "_law_ring"] ["_law_images"] (defScope s_l_rings) := ⟨rfl, rfl, rfl, by decide +kernel, rfl, by decide +kernel, by decide +kernel⟩

def spRings (K : PySem.W.Frag) : Sp := fun vs H Q _ => ∃ (a : Addr) (im : List Nat), vs = [.ref a] ∧ SqL K H a (im.map nv) ∧ IsPerm im ∧ im.length ≤ 100 ∧
  ∀ (o : Addr) (as : List Addr) (H' : Hp), Same H H' → H o = none → (∀ a ∈ as, H a = none) → o ∉ as → as.Nodup → H' o = some (.lst (as.map V.ref)) → Rg H' as (rings (ap im) im.length) → Q (.ref o) H'
theorem ok_l_rings {f : Addr} {fd : FuncData} (F : Fun K "_law_rings" "_law_rings" s_l_rings f fd) (T : Blt mg) : FnOk P w K mg base CX0 1 f fd ["_law_images"] (spRings K) := by
  refine F.ok sc_l_rings (fun vs H Q E h => ?_) (fun cdv A outer s H vs Q E hr h => ?_)
  · obtain ⟨a, im, rfl, _⟩ := h; rfl
  · obtain ⟨a, im, rfl, hS, hI, hn, q⟩ := h
    have P := hI.perm
    refine ⟨_, (pss_cons (ps_set (i := 1) sc_l_rings.nd rfl (.inl rfl) (pe_lst pa_nil))
    (pss_cons (ps_set (i := 2) sc_l_rings.nd rfl (.inl rfl) (pe_lst pa_nil))
    (pss_cons (ps_for PassesOwn.never rfl (pi_range1 (by rfl) T.range (pa_cons (pe_callB call_len_seq (by rfl) T.len PySem.boot_len (pa_cons (pv 0) pa_nil)) pa_nil)) (pg_name (i := 3) sc_l_rings.nd rfl (.inl rfl)) (pss_one (ps_if (pt_cmpR op_notIn_seq (pv 3) (pv 2) rfl) (pss_cons (ps_set (i := 4) sc_l_rings.nd rfl (.inl rfl) (pe_lst (pa_cons (pv 3) pa_nil)))
    (pss_cons (ps_while PassesOwn.never (pt_cmpR op_ne (pe_ix ix_list (pv 0) (pe_ix ix_list (pv 4) (pe_un un_neg pe_int) (fun _ _ => rfl)) (fun _ _ => rfl)) (pv 3) (nomark _)) (pss_one (ps_expr (pe_bm PySem.F.plainAttrs_list PySem.F.slot_list_append PySem.F.type_list_append mt_append (pv 4) (pa_cons (pe_ix ix_list (pv 0) (pe_ix ix_list (pv 4) (pe_un un_neg pe_int) (fun _ _ => rfl)) (fun _ _ => rfl)) pa_nil)))))
    (pss_cons (ps_set (i := 2) sc_l_rings.nd rfl (.inl rfl) (pe_op op_cat (pv 2) (pv 4)))
    (pss_one (ps_if (pt_cmpR op_gt (pe_callB call_len_seq (by rfl) T.len PySem.boot_len (pa_cons (pv 4) pa_nil)) pe_int (nomark _)) (pss_one (ps_expr (pe_bm PySem.F.plainAttrs_list PySem.F.slot_list_append PySem.F.type_list_append mt_append (pv 1) (pa_cons (pv 4) pa_nil)))) pss_nil))))) pss_nil)))
    (pss_one (ps_ret (pv 1)))))), ?_⟩
    -- out = []; seen = []
    refine ⟨Nat.zero_le _, fun o no => ⟨Nat.zero_le _, fun e ne => ?_⟩⟩
    have s1 : Same H (upd H o (.lst [])) := same_upd no
    have s2 : Same H (upd (upd H o (.lst [])) e (.lst [])) := s1.trans (same_upd ne)
    have noe : o ≠ e := ne_of_none (H := upd H o (.lst [])) upd_same ne
    refine ⟨_, rfl, a, _, rfl, .inl (s2.seq hS), _, rfl, by omega, by rw [List.length_map]; omega, ?_⟩
    rw [Int.toNat_natCast, List.length_map]
    refine for_range (lo := 0) (n := im.length) (fun i σ H1 => ∃ (v3 v4 : Option V) (sn : List Nat) (x : Addr) (as : List Addr), σ = [some (.ref a), some (.ref o), some (.ref x), v3, v4] ∧ Same H H1 ∧
        H1 x = some (.lst (sn.map nv)) ∧ (∀ y, y ∈ sn ↔ ∃ q, q < i ∧ y ∈ ring (ap im) im.length q) ∧ sn.length ≤ i * 100 ∧ x ≠ o ∧ H x = none ∧
        H1 o = some (.lst (as.map V.ref)) ∧ Rg H1 as (ringsTo (ap im) im.length i) ∧ o ∉ as ∧ as.Nodup ∧ (∀ a ∈ as, H a = none))
      ⟨none, none, [], e, [], rfl, s2, upd_same, fun y => ⟨fun h => by simp at h, fun ⟨q, h, _⟩ => absurd h (Nat.not_lt_zero _)⟩, Nat.zero_le _, noe.symm, s1.free ne, by rw [upd_ne noe, upd_same]; rfl, Rg.nil, by simp, by simp, by simp⟩ ?_ ?_
    · rintro i σ H1 hi ⟨v3, v4, sn, x, as, rfl, s3, hx, hsn, hsl, nxo, nx, ho, hg, hoa, hnd, hfr⟩
      rw [Int.zero_add]
      -- place not in seen
      refine ⟨_, rfl, _, rfl, x, _, rfl, .inl (SqL.of hx), rfl, all_flat sn, _, rfl, ?_⟩
      have ei : inV (V.int (i : Int)) (sn.map nv) = decide (i ∈ sn) := inV_nv i sn
      rw [ei]
      by_cases c : i ∈ sn
      · rw [decide_eq_true c]
        refine iteF ?_
        have l0 := (seen_lead P hi hsn).mp c
        exact ⟨_, v4, sn, x, as, rfl, s3, hx, seen_skip P hi hsn c, by omega, nxo, nx, ho, by rw [ringsTo_skip l0]; exact hg, hoa, hnd, hfr⟩
      · rw [decide_eq_false c]
        refine iteT ?_
        have l1 : lead (ap im) im.length i = true := by
          cases z : lead (ap im) im.length i with
          | true => rfl
          | false => exact absurd ((seen_lead P hi hsn).mpr z) c
        obtain ⟨p0, pe, pl, _⟩ := per_spec P hi
        -- ring = [place]
        refine ⟨_, rfl, by show 1 ≤ sizeLine; decide, fun r nr => ?_⟩
        have nro : o ≠ r := ne_of_none ho nr
        have nrx : x ≠ r := ne_of_none hx nr
        have s4 : ∀ z, Same H (upd H1 r z) := fun z => mutS s3 (s3.free nr)
        -- while
        refine ⟨fun m σ H2 => ∃ j, j < per (ap im) im.length i ∧ m = per (ap im) im.length i - (j + 1) ∧ σ = [some (.ref a), some (.ref o), some (.ref x), some (nv i), some (.ref r)] ∧ H2 = upd H1 r (.lst ((pref (ap im) i (j + 1)).map nv)), ⟨_, 0, p0, rfl, rfl, rfl⟩, ?_⟩
        rintro m σ H2 ⟨j, hj, rfl, rfl, rfl⟩
        have hA := (s4 (.lst ((pref (ap im) i (j + 1)).map nv))).seq hS
        have eP : (pref (ap im) i (j + 1)).map nv = (pref (ap im) i j).map nv ++ [nv (it (ap im) j i)] := by rw [pref_succ, List.map_append]; rfl
        have hlt : it (ap im) j i < im.length := P.it_lt j hi
        have hR : SqL K (upd H1 r (.lst ((pref (ap im) i (j + 1)).map nv))) r ((pref (ap im) i (j + 1)).map nv) := SqL.of upd_same
        have gl : atI ((pref (ap im) i (j + 1)).map nv) (-1) = some (nv (it (ap im) j i)) := by rw [eP]; exact atI_last _ _
        have gi : atI (im.map nv) ((it (ap im) j i : Nat) : Int) = some (nv (it (ap im) (j + 1) i)) := atI_nat (nv_get (ap_get hlt))
        refine ⟨_, rfl, _, rfl, 1, rfl, r, _, _, _, rfl, rfl, hR, gl, a, _, _, _, rfl, rfl, hA, gi, _, rfl, rfl, _, rfl, ?_⟩
        by_cases cb : it (ap im) (j + 1) i = i
        · -- the ring is whole
          have ej := (back_iff P hi hj).mp cb
          rw [cb, decide_eq_true rfl]
          refine iteF ?_
          have eR : pref (ap im) i (j + 1) = ring (ap im) im.length i := by rw [ej]; rfl
          rw [eR]
          -- seen = seen + ring
          refine ⟨_, rfl, _, rfl, x, r, _, _, rfl, rfl, by rw [upd_ne nrx]; exact hx, upd_same, ?_, fun x' nx' => ?_⟩
          · rw [List.length_map, List.length_map, ring_len]
            exact Nat.le_of_lt (small64 (by have : i * 100 ≤ 100 * 100 := Nat.mul_le_mul_right _ (by omega); omega))
          rw [← List.map_append]
          have nro' : o ≠ x' := ne_of_none (H := upd H1 r _) (by rw [upd_ne nro]; exact ho) nx'
          have nrr' : r ≠ x' := ne_of_none (H := upd H1 r _) upd_same nx'
          have s5 : Same H (upd (upd H1 r (.lst ((ring (ap im) im.length i).map nv))) x' (.lst ((sn ++ ring (ap im) im.length i).map nv))) := (s4 _).trans (same_upd nx')
          have hro : r ∉ as := fun hm => by
            obtain ⟨z, hz⟩ := hg.know hm
            rw [hz] at nr
            cases nr
          have hxas : x' ∉ as := fun hm => by
            obtain ⟨z, hz⟩ := hg.know hm
            rw [upd_ne (fun e => hro (by rw [← e]; exact hm)), hz] at nx'
            cases nx'
          have hlen : (sn ++ ring (ap im) im.length i).length ≤ (i + 1) * 100 := by rw [List.length_append, ring_len]; omega
          -- if len(ring) > 1
          refine ⟨_, rfl, r, _, rfl, .inl (SqL.of (by rw [upd_ne nrr']; exact upd_same)), _, _, rfl, rfl, _, rfl, ?_⟩
          by_cases ci : ap im i = i
          · refine decF (by rw [List.length_map, ring_len, (per_one P hi).mpr ci]; omega) ?_
            refine ⟨_, _, _, x', as, rfl, s5, upd_same, seen_more hsn, hlen, nro'.symm, (s4 _).free nx', by rw [upd_ne nro', upd_ne nro]; exact ho, ?_, hoa, hnd, hfr⟩
            rw [ringsTo_stay ci]
            exact (hg.upd hro).upd hxas
          · refine decT (by
              rw [List.length_map, ring_len]
              have : per (ap im) im.length i ≠ 1 := fun z => ci ((per_one P hi).mp z)
              omega) ?_
            have ho5 : (upd (upd H1 r (.lst ((ring (ap im) im.length i).map nv))) x' (.lst ((sn ++ ring (ap im) im.length i).map nv))) o = some (.lst (as.map V.ref)) := by rw [upd_ne nro', upd_ne nro]; exact ho
            refine ⟨_, rfl, .inl ⟨rfl, _, SqL.of ho5⟩, _, rfl, o, _, _, rfl, rfl, ho5, small64 (by rw [List.length_map, hg.len]; have := ringsTo_len (ap im) im.length i; omega), ?_⟩
            refine ⟨_, _, _, x', as ++ [r], rfl, mutS s5 no, by rw [upd_ne nro'.symm]; exact upd_same, seen_more hsn, hlen, nro'.symm, (s4 _).free nx', by rw [upd_same, List.map_append]; rfl, ?_, ?_, ?_, ?_⟩
            · rw [ringsTo_more l1 ci]
              refine Rg.snoc (((hg.upd hro).upd hxas).upd hoa) ?_
              rw [upd_ne nro.symm, upd_ne nrr']
              exact upd_same
            · rw [List.mem_append, not_or]
              exact ⟨hoa, fun h => nro (List.mem_singleton.mp h)⟩
            · exact nd_snoc hnd hro
            · intro b hb
              rcases List.mem_append.mp hb with h | h
              · exact hfr b h
              · rw [List.mem_singleton.mp h]; exact s3.free nr
        · have ej : j + 1 ≠ per (ap im) im.length i := fun z => cb ((back_iff P hi hj).mpr z)
          rw [decide_eq_false (fun z => cb (by have := V.int.inj z; omega))]
          refine iteT ⟨fun σ' H' => σ' = [some (.ref a), some (.ref o), some (.ref x), some (nv i), some (.ref r)] ∧ H' = upd H1 r (.lst ((pref (ap im) i (j + 1 + 1)).map nv)), fun σ' H' h => ⟨_, ?_, j + 1, by omega, rfl, h.1, h.2⟩, ?_⟩
          · omega
          refine ⟨_, rfl, .inl ⟨rfl, _, hR⟩, _, rfl, _, rfl, 1, rfl, r, _, _, _, rfl, rfl, hR, gl, a, _, _, _, rfl, rfl, hA, gi, r, _, _, rfl, rfl, upd_same, small64 (by rw [List.length_map, pref_len]; omega), rfl, ?_⟩
          rw [upd_upd, pref_succ (ap im) i (j + 1), List.map_append]
          rfl
    · rintro σ H1 ⟨v3, v4, sn, x, as, rfl, s3, hx, hsn, hsl, nxo, nx, ho, hg, hoa, hnd, hfr⟩
      exact ⟨_, rfl, q o as H1 s3 no hfr hoa hnd ho hg⟩
end
/-! ### dicts from places to places -/
def natKV (g : List (Nat × Nat)) : List (Key × V) := g.map fun p => (Sum.inl (p.1 : Int), nv p.2)
theorem natKV_append (a b : List (Nat × Nat)) : natKV (a ++ b) = natKV a ++ natKV b := List.map_append
theorem natKV_none : ∀ {g : List (Nat × Nat)} {x : Nat}, x ∉ g.map Prod.fst → valV (natKV g) (Sum.inl (x : Int)) = none
  | [], x, _ => rfl
  | (a, b) :: g, x, h => by
    have h1 : ¬ x = a := fun e => h (by rw [e]; exact List.mem_cons_self)
    have h2 : x ∉ g.map Prod.fst := fun e => h (List.mem_cons_of_mem _ e)
    show valV ((Sum.inl (a : Int), nv b) :: natKV g) _ = none
    rw [valV_neg (fun e => h1 (by have := Sum.inl.inj e; omega))]
    exact natKV_none h2
theorem natKV_some : ∀ {g : List (Nat × Nat)} {x y : Nat}, (g.map Prod.fst).Nodup → (x, y) ∈ g → valV (natKV g) (Sum.inl (x : Int)) = some (nv y)
  | [], x, y, _, h => by cases h
  | (a, b) :: g, x, y, hn, h => by
    have hn' : (a :: g.map Prod.fst).Nodup := hn
    obtain ⟨n1, n2⟩ := List.nodup_cons.mp hn'
    show valV ((Sum.inl (a : Int), nv b) :: natKV g) _ = _
    rcases List.mem_cons.mp h with e | e
    · have e1 : x = a := congrArg Prod.fst e
      have e2 : y = b := congrArg Prod.snd e
      rw [e1, e2, valV_pos rfl]
    · have hxa : ¬ a = x := fun q => n1 (by rw [q]; exact List.mem_map.mpr ⟨(x, y), e, rfl⟩)
      rw [valV_neg (fun q => hxa (by have := Sum.inl.inj q; omega))]
      exact natKV_some n2 e
theorem natKV_len (g : List (Nat × Nat)) : (natKV g).length = g.length := List.length_map _
/-- what a dict of a map's pairs tells -/
theorem graph_get {f : Nat → Nat} {l : List Nat} (hn : l.Nodup) (x : Nat) : valV (natKV (graph f l)) (Sum.inl (x : Int)) = if x ∈ l then some (nv (f x)) else none := by
  by_cases c : x ∈ l
  · rw [if_pos c]
    exact natKV_some (by rw [graph_fst]; exact hn) (List.mem_map.mpr ⟨x, c, rfl⟩)
  · rw [if_neg c]
    exact natKV_none (by rw [graph_fst]; exact c)
theorem cutV_from1 (xs : List V) : cutV xs (some 1) none = xs.drop 1 := by
  unfold cutV
  rw [show HT.sIx xs.length 0 (some 1) = min 1 xs.length from HT.sIx_nat xs.length 0 1, HT.sIx_none]
  cases xs with
  | nil => rfl
  | cons x r =>
    rw [show min 1 (x :: r).length = 1 by rw [List.length_cons]; omega]
    show (List.take ((x :: r).length - 1) r) = r
    rw [List.length_cons, Nat.add_sub_cancel]
    exact List.take_length
theorem cutV_to1 (xs : List V) : cutV xs none (some 1) = xs.take 1 := by
  unfold cutV
  rw [show HT.sIx xs.length xs.length (some 1) = min 1 xs.length from HT.sIx_nat xs.length xs.length 1, HT.sIx_none, List.drop_zero, Nat.sub_zero]
  cases xs with
  | nil => rfl
  | cons x r => rw [show min 1 (x :: r).length = 1 by rw [List.length_cons]; omega]
theorem rot_nv (r : List Nat) : (rot r).map nv = (r.map nv).drop 1 ++ (r.map nv).take 1 := by
  unfold rot
  rw [List.map_append, List.map_drop, List.map_take]
section
variable {P : Program} {w : World} {K : PySem.W.Frag} {mg : Str → Option Value} {base : Heap}
/-- a def with defaults that lets nothing out -/
theorem okD {x qual : Str} {params : Arguments} {body : List Stmt} {scope : Scope} {dvs : List V} {kws : List (Str × V)} {f : Addr} {fd : FuncData} {N ps : List Str} {k : Nat} {sp : Sp} (F : FunD K x qual params body scope dvs kws f fd) (S : FnScope N ps scope) (len : ∀ vs H Q E, sp vs H Q E → vs.length = ps.length)
    (hb : ∀ (cdv : Value) (A : Around) (outer : List Env) (s : Shared) (H : Hp) (vs : List V) (Q : VK) (E : XK), Room k (A.deeper (envOfC qual scope s.heap.objs.size f cdv)) → sp vs H Q E →
      ∃ t, PSs (cxOf CX0 P w K mg base N qual scope f cdv A outer s H E).nox body t ∧ t { nx := fun _ H' => Q .non H', rt := Q } (start N vs) H) : FnOk P w K mg base CX0 (k + 1) f fd ps sp :=
  F.ok S len fun cdv A outer s H vs Q E hr h => by
    obtain ⟨t, p, q⟩ := hb cdv A outer s H vs Q E hr h
    exact ⟨t, p.nox, q⟩
/-! ### moves_of -/
abbrev s_moves_of : Stmt := top 18
theorem sc_moves_of : FnScope ["rings", "size", "moves", "index", "ring", "place", "image"] ["rings", "size"] (defScope s_moves_of) := ⟨rfl, rfl, rfl, by decide +kernel, rfl, by decide +kernel, by decide +kernel⟩

/-- the size: None, or a number above all places -/
def SizeV (z : V) (rs : List (List Nat)) : Prop := z = .non ∨ ∃ n : Nat, z = nv n ∧ ∀ x ∈ rs.flatten, x < n
def spMoves (K : PySem.W.Frag) : Sp := fun vs H Q _ => ∃ (a : Addr) (z : V) (as : List Addr) (rs : List (List Nat)), vs = [.ref a, z] ∧ SqL K H a (as.map V.ref) ∧ Rg H as rs ∧ SizeV z rs ∧ (∀ r ∈ rs, r ≠ []) ∧ rs.flatten.Nodup ∧ rs.flatten.length ≤ 1000 ∧
  ∀ (d : Addr) (H' : Hp), Same H H' → H d = none → H' d = some (.dK (natKV (pairs rs))) → Q (.ref d) H'
theorem ok_moves_of {f : Addr} {fd : FuncData} (F : FunD K "moves_of" "moves_of" (defArgs s_moves_of) (defBody s_moves_of) (defScope s_moves_of) [.non] [] f fd) (T : Blt mg) : FnOk P w K mg base CX0 1 f fd ["rings", "size"] (spMoves K) := by
  refine okD F sc_moves_of (fun vs H Q E h => ?_) (fun cdv A outer s H vs Q E hr h => ?_)
  · obtain ⟨a, z, as, rs, rfl, _⟩ := h; rfl
  · obtain ⟨a, z, as, rs, rfl, hS, hg, hz, hne, hnd, hlen, q⟩ := h
    have hu := hu_of hr
    refine ⟨_, (pss_cons (ps_set (i := 2) sc_moves_of.nd rfl (.inl rfl) pe_dnewK)
    (pss_cons (ps_for PassesOwn.never rfl (pi_enum (by rfl) T.enumerate (pa_cons (pv 0) pa_nil)) (pg_tup rfl (pgs_cons (pg_name (i := 3) sc_moves_of.nd rfl (.inl rfl)) (pgs_cons (pg_name (i := 4) sc_moves_of.nd rfl (.inl rfl)) pgs_nil))) (pss_cons (ps_if (pt_not (pt_truth (pv 4) (by intro _; rfl))) pss_never pss_nil)
    (pss_one (ps_for PassesOwn.never rfl (pi_zip (by rfl) T.zip (pa_cons (pv 4) (pa_cons (pe_op op_cat (pe_slice sl_list (pv 4) (po_some pe_int) po_none) (pe_slice sl_list (pv 4) po_none (po_some pe_int))) pa_nil))) (pg_tup rfl (pgs_cons (pg_name (i := 5) sc_moves_of.nd rfl (.inl rfl)) (pgs_cons (pg_name (i := 6) sc_moves_of.nd rfl (.inl rfl)) pgs_nil))) (pss_cons (ps_if (PW.pt (pw_or (pt_cmpR op_lt (pv 5) pe_int (nomark _)) (pw_or (pt_cmp (pc_din hu (pv 5) (pv 2))) (pw_or1 (PW.pt (pw_and (pt_cmpR op_notN (pv 1) pe_non (nomark _)) (pw_and1 (pt_cmpR op_ge (pv 5) (pv 1) (nomark _))))))))) pss_never pss_nil)
    (pss_one (ps_dput hu (pv 2) (pv 5) (pv 6) rfl)))))))
    (pss_one (ps_ret (pv 2))))), ?_⟩
    intro d nd
    have s1 : Same H (upd H d (.dK [])) := same_upd nd
    refine ⟨.ref a, rfl, a, _, rfl, s1.seq hS, ?_⟩
    refine for_it (walk_enum (K := K) (a := a) (xs := as.map V.ref)) (fun i σ H1 => ∃ v3 v4 v5 v6 : Option V, σ = [some (.ref a), some z, some (.ref d), v3, v4, v5, v6] ∧ Same H H1 ∧ H1 d = some (.dK (natKV (pairs (rs.take i)))))
      ⟨none, none, none, none, rfl, s1, upd_same⟩ (fun i σ H1 _ ⟨_, _, _, _, _, s2, _⟩ => s2.seq hS) ?_ ?_
    · rintro i y σ H1 H2 hi ⟨v3, v4, v5, v6, rfl, s2, hd⟩ ⟨T1, x1, x2, rfl, nT, rfl, f1, f2⟩
      have e1 : x1 = V.int (i : Nat) := (Option.some.inj f1).symm
      subst e1
      rw [List.length_map] at hi
      obtain ⟨b, hb⟩ : ∃ b, as[i]? = some b := ⟨as[i], List.getElem?_eq_getElem hi⟩
      have e2 : x2 = V.ref b := by
        have f3 : (as.map V.ref)[i]? = some x2 := f2
        rw [List.getElem?_map, hb] at f3
        exact (Option.some.inj f3).symm
      subst e2
      have hir : i < rs.length := by rw [← hg.len]; exact hi
      obtain ⟨r, hr'⟩ : ∃ r, rs[i]? = some r := ⟨rs[i], List.getElem?_eq_getElem hir⟩
      have hbr := hg.at_ i b r hb hr'
      have hr0 : r ≠ [] := hne r (List.mem_of_getElem? hr')
      have dT : d ≠ T1 := ne_of_none hd nT
      have s3 : Same H (upd H1 T1 (.tup [V.int (i : Nat), V.ref b])) := mutS s2 (s2.free nT)
      -- index, ring = the pair
      refine ⟨T1, _, rfl, SqT.of upd_same, rfl, _, _, rfl, _, _, rfl, rfl, ?_⟩
      -- if not ring
      have hB : SqL K (upd H1 T1 (.tup [V.int (i : Nat), V.ref b])) b (r.map nv) := SqL.of (s3 _ _ hbr)
      refine ⟨_, rfl, true, .inl ⟨_, hB, by cases r with | nil => exact absurd rfl hr0 | cons x r => rfl⟩, iteF ?_⟩
      -- zip(ring, ring[1:] + ring[:1])
      refine ⟨_, rfl, _, rfl, 1, rfl, b, _, rfl, hB, fun p1 np1 => ⟨_, rfl, 1, rfl, b, _, rfl, (same_upd np1).seq hB, fun p2 np2 => ?_⟩⟩
      rw [cutV_from1, cutV_to1]
      rw [cutV_from1] at np2
      have n12 : p1 ≠ p2 := ne_of_none (upd_same (H := upd H1 T1 _)) np2
      refine ⟨p1, p2, _, _, rfl, rfl, by rw [upd_ne n12]; exact upd_same, upd_same, Nat.le_trans (show _ ≤ 2000 from ?_) (by decide), fun p3 np3 => ?_⟩
      · rw [List.length_drop, List.length_take, List.length_map]
        have : r.length ≤ rs.flatten.length := by
          have h1 : r.length = (nxt r).length := (nxt_len r).symm
          have h2 := pairs_snoc hr'
          have h3 := pairs_take_len rs (i + 1)
          rw [h2, List.length_append] at h3
          omega
        omega
      rw [← rot_nv]
      have sA : Same (upd H1 T1 (.tup [V.int (i : Nat), V.ref b])) (upd (upd (upd (upd H1 T1 (.tup [V.int (i : Nat), V.ref b])) p1 (.lst ((r.map nv).drop 1))) p2 (.lst ((r.map nv).take 1))) p3 (.lst ((rot r).map nv))) :=
        ((same_upd np1).trans (same_upd np2)).trans (same_upd np3)
      refine ⟨b, p3, _, _, rfl, sA.seq hB, SqL.of upd_same, ?_⟩
      have dp1 : d ≠ p1 := ne_of_none (H := upd H1 T1 _) (by rw [upd_ne dT]; exact hd) np1
      have dp2 : d ≠ p2 := ne_of_none (H := upd (upd H1 T1 _) p1 _) (by rw [upd_ne dp1, upd_ne dT]; exact hd) np2
      have dp3 : d ≠ p3 := ne_of_none (H := upd (upd (upd H1 T1 _) p1 _) p2 _) (by rw [upd_ne dp2, upd_ne dp1, upd_ne dT]; exact hd) np3
      have n3b : p3 ≠ b := fun e => by
        have h1 := (same_upd (o := .lst ((r.map nv).drop 1)) np1).trans (same_upd (o := .lst ((r.map nv).take 1)) np2)
        have h2 := h1 b _ (s3 _ _ hbr)
        rw [e, h2] at np3
        cases np3
      refine for_it (walk_zip (K := K) (a := b) (b := p3) (xs := r.map nv) (ys := (rot r).map nv) (n := r.length) (by rw [List.length_map, List.length_map, rot_len]; omega))
        (fun j σ H3 => ∃ v5 v6 : Option V, σ = [some (.ref a), some z, some (.ref d), some (V.int (i : Nat)), some (.ref b), v5, v6] ∧ Same H H3 ∧ H3 p3 = some (.lst ((rot r).map nv)) ∧ H3 d = some (.dK (natKV (pairs (rs.take i) ++ (nxt r).take j))))
        ⟨v5, v6, rfl, s3.trans sA, upd_same, by rw [upd_ne dp3, upd_ne dp2, upd_ne dp1, upd_ne dT, List.take_zero, List.append_nil]; exact hd⟩ (fun j σ H3 _ ⟨_, _, _, s4, h4, _⟩ => ⟨SqL.of (s4 _ _ hbr), SqL.of h4⟩) ?_ ?_
      · rintro j y σ H3 H4 hj ⟨v5, v6, rfl, s4, h4, h5⟩ ⟨T2, x1, x2, rfl, nT2, rfl, g1, g2⟩
        obtain ⟨x, hx, rfl⟩ := of_nv_get g1
        obtain ⟨y, hy, rfl⟩ := of_nv_get g2
        have dT2 : d ≠ T2 := ne_of_none h5 nT2
        have h5' : (upd H3 T2 (.tup [nv x, nv y])) d = some (.dK (natKV (pairs (rs.take i) ++ (nxt r).take j))) := by rw [upd_ne dT2]; exact h5
        have hno : valV (natKV (pairs (rs.take i) ++ (nxt r).take j)) (Sum.inl (x : Int)) = none := natKV_none (not_before hnd hr' hx)
        refine ⟨T2, _, rfl, SqT.of upd_same, rfl, _, _, rfl, _, _, rfl, rfl, ?_⟩
        -- the test
        refine ⟨_, rfl, _, _, rfl, rfl, _, rfl, decF (by omega) ?_⟩
        refine ⟨_, rfl, _, rfl, d, none, rfl, .inl ⟨_, _, .of h5', rfl, hno.symm⟩, _, rfl, iteF ?_⟩
        have fin : ∀ D : Ends, D.nx = (fun σ H' => ∃ v5 v6 : Option V, σ = [some (.ref a), some z, some (.ref d), some (V.int (i : Nat)), some (.ref b), v5, v6] ∧ Same H H' ∧ H' p3 = some (.lst ((rot r).map nv)) ∧ H' d = some (.dK (natKV (pairs (rs.take i) ++ (nxt r).take (j + 1))))) →
            sDPut (tVar 2) (tVar 5) (tVar 6) D [some (.ref a), some z, some (.ref d), some (V.int (i : Nat)), some (.ref b), some (nv x), some (nv y)] (upd H3 T2 (.tup [nv x, nv y])) := fun D hD => by
          refine ⟨_, rfl, _, rfl, _, rfl, d, _, rfl, DPut.k (k := Sum.inl (x : Int)) h5' ?_, ?_⟩
          · rw [natKV_len, List.length_append, List.length_take]
            refine small64 ?_
            have h3 := pairs_take_len rs (i + 1)
            rw [pairs_snoc hr', List.length_append] at h3
            omega
          · rw [hD]
            have p3T : p3 ≠ T2 := ne_of_none h4 nT2
            have dp3' : p3 ≠ d := dp3.symm
            refine ⟨_, _, rfl, mutS (mutS s4 (s4.free nT2)) nd, by rw [upd_ne dp3', upd_ne p3T]; exact h4, ?_⟩
            rw [upd_same, putK_new _ hno, take_snoc (nxt_get hx hy), ← List.append_assoc, natKV_append (_ ++ _)]
            rfl
        rcases hz with rfl | ⟨n, rfl, hn⟩
        · exact ⟨_, rfl, rfl, _, rfl, iteF (iteF (fin _ rfl))⟩
        · have hxn : x < n := hn x (List.mem_flatten.mpr ⟨r, List.mem_of_getElem? hr', List.mem_of_getElem? hx⟩)
          refine ⟨_, rfl, rfl, _, rfl, iteT ⟨_, rfl, _, rfl, _, _, rfl, rfl, _, rfl, decF (by omega) (fin _ rfl)⟩⟩
      · rintro σ H3 ⟨v5, v6, rfl, s4, h4, h5⟩
        refine ⟨_, _, v5, v6, rfl, s4, ?_⟩
        have et : (nxt r).take r.length = nxt r := List.take_of_length_le (by rw [nxt_len]; exact Nat.le_refl _)
        rw [h5, pairs_snoc hr', et]
    · rintro σ H1 ⟨v3, v4, v5, v6, rfl, s2, hd⟩
      refine ⟨_, rfl, q d H1 s2 nd ?_⟩
      rw [hd, List.length_map, hg.len, List.take_length]
end
section
variable {P : Program} {w : World} {K : PySem.W.Frag} {mg : Str → Option Value} {base : Heap}
/-! ### rings_of -/
abbrev s_rings_of : Stmt := top 19
theorem sc_rings_of : FnScope ["moves", "rings", "seen", "first", "ring", "place"] ["moves"] (defScope s_rings_of) := ⟨rfl, rfl, rfl, by decide +kernel, rfl, by decide +kernel, by decide +kernel⟩

/-- the places xs, each once, below n; f leads them, and stays elsewhere -/
structure Moves (f : Nat → Nat) (n : Nat) (ks : List Nat) : Prop where
  perm : PermF f n
  nd : ks.Nodup
  lt : ∀ k ∈ ks, k < n
  all : ∀ x, x < n → f x ≠ x → x ∈ ks
  cl : ∀ k ∈ ks, f k ∈ ks
  few : ks.length < 64
  small : ks.length * n ≤ 4000
def spRingsOf : Sp := fun vs H Q _ => ∃ (d : Addr) (f : Nat → Nat) (n : Nat) (ks : List Nat), vs = [.ref d] ∧ H d = some (.dK (natKV (graph f ks))) ∧ Moves f n ks ∧
  ∀ (o : Addr) (as : List Addr) (H' : Hp), Same H H' → H o = none → (∀ a ∈ as, H a = none) → o ∉ as → as.Nodup → H' o = some (.lst (as.map V.ref)) → Rg H' as (rings f n) → Q (.ref o) H'
theorem it_in {f : Nat → Nat} {n : Nat} {ks : List Nat} (M : Moves f n ks) {y : Nat} (h : y ∈ ks) : ∀ j, it f j y ∈ ks
  | 0 => h
  | j + 1 => M.cl _ (it_in M h j)
theorem ok_rings_of {f : Addr} {fd : FuncData} (F : Fun K "rings_of" "rings_of" s_rings_of f fd) (T : Blt mg) : FnOk P w K mg base CX0 1 f fd ["moves"] spRingsOf := by
  refine F.ok sc_rings_of (fun vs H Q E h => ?_) (fun cdv A outer s H vs Q E hr h => ?_)
  · obtain ⟨d, f, n, ks, rfl, _⟩ := h; rfl
  · obtain ⟨d, f, n, ks, rfl, hd, M, q⟩ := h
    have PF := M.perm
    have hu := hu_of hr
    have get : ∀ {H' : Hp}, Same H H' → ∀ y, y ∈ ks → DGet H' d (V.int (y : Int)) (some (nv (f y))) := fun s y hy =>
      .inl ⟨_, Sum.inl (y : Int), .of (s _ _ hd), rfl, by rw [graph_get M.nd, if_pos hy]⟩
    refine ⟨_, (pss_cons (ps_set (i := 1) sc_rings_of.nd rfl (.inl rfl) (pe_lst pa_nil))
    (pss_cons (ps_set (i := 2) sc_rings_of.nd rfl (.inl rfl) (pe_callTy0 cr_set0 (by rfl) T.set (by decide +kernel)))
    (pss_cons (ps_for PassesOwn.never rfl (pi_list (pe_callB (call_sortedDI rfl) (by rfl) T.sorted (by decide +kernel) (pa_cons (pv 0) pa_nil))) (pg_name (i := 3) sc_rings_of.nd rfl (.inl rfl)) (pss_cons (ps_if (PW.pt (pw_or (pt_cmpR or_sin (pv 3) (pv 2) rfl) (pw_or1 (pt_cmpR op_eq (pe_dget hu (pv 0) (pv 3) (fun _ _ => rfl)) (pv 3) (nomark _))))) (pss_one ps_continue) pss_nil)
    (pss_cons (ps_set (i := 4) sc_rings_of.nd rfl (.inl rfl) (pe_lst (pa_cons (pv 3) pa_nil)))
    (pss_cons (ps_set (i := 5) sc_rings_of.nd rfl (.inl rfl) (pe_dget hu (pv 0) (pv 3) (fun _ _ => rfl)))
    (pss_cons (ps_while PassesOwn.never (pt_cmpR op_ne (pv 5) (pv 3) (nomark _)) (pss_cons (ps_expr (pe_bm PySem.F.plainAttrs_list PySem.F.slot_list_append PySem.F.type_list_append mt_append (pv 4) (pa_cons (pv 5) pa_nil)))
    (pss_cons (ps_expr (pe_sadd (pv 2) (pa_cons (pv 5) pa_nil)))
    (pss_one (ps_set (i := 5) sc_rings_of.nd rfl (.inl rfl) (pe_dget hu (pv 0) (pv 5) (fun _ _ => rfl)))))))
    (pss_one (ps_expr (pe_bm PySem.F.plainAttrs_list PySem.F.slot_list_append PySem.F.type_list_append mt_append (pv 1) (pa_cons (pv 4) pa_nil)))))))))
    (pss_one (ps_ret (pv 1)))))), ?_⟩
    -- rings = []; seen = set()
    refine ⟨Nat.zero_le _, fun o no => ⟨rfl, fun e ne => ?_⟩⟩
    have s1 : Same H (upd H o (.lst [])) := same_upd no
    have s2 : Same H (upd (upd H o (.lst [])) e (SetO w e (fun _ => false) 0)) := s1.trans (same_upd ne)
    have noe : o ≠ e := ne_of_none (H := upd H o (.lst [])) upd_same ne
    -- sorted(moves)
    refine ⟨_, rfl, d, _, ks.map fun (k : Nat) => (k : Int), rfl, .of (s2 _ _ hd), ?_, by rw [List.length_map]; exact M.few, fun ys p hp hs np => ?_⟩
    · unfold natKV graph
      rw [List.map_map, List.map_map, List.map_map]
      rfl
    obtain ⟨zs, rfl, zp, zs1⟩ := perm_nat hp hs M.nd
    have zlt : ∀ y ∈ zs, y < n := fun y hy => M.lt y (zp.mem_iff.mp hy)
    have zall : ∀ x, x < n → f x ≠ x → x ∈ zs := fun x h1 h2 => zp.mem_iff.mpr (M.all x h1 h2)
    have zlen : zs.length = ks.length := zp.length_eq
    have em : (zs.map fun (k : Nat) => (k : Int)).map V.int = zs.map nv := by rw [List.map_map]; rfl
    rw [em] at *
    have nop : o ≠ p := ne_of_none (H := upd (upd H o (.lst [])) e _) (by rw [upd_ne noe]; exact upd_same) np
    have nep : e ≠ p := ne_of_none (H := upd (upd H o (.lst [])) e _) upd_same np
    have ne' : H e = none := s1.free ne
    have np' : H p = none := s2.free np
    refine ⟨p, rfl, ⟨_, SqL.of upd_same⟩, for_list (K := K) (a := p) (xs := zs.map nv) (fun i σ H1 => ∃ (v3 v4 v5 : Option V) (S : Int → Bool) (c : Nat) (as : List Addr), σ = [some (.ref d), some (.ref o), some (.ref e), v3, v4, v5] ∧ Same H H1 ∧
        H1 p = some (.lst (zs.map nv)) ∧ H1 e = some (SetO w e S c) ∧ (∀ x : Nat, S (x : Int) = true ↔ Marked f n (zs.take i) x) ∧ c ≤ i * n ∧
        H1 o = some (.lst (as.map V.ref)) ∧ Rg H1 as (ringsIn f n (zs.take i)) ∧ o ∉ as ∧ as.Nodup ∧ (∀ a ∈ as, H a = none))
      ⟨none, none, none, fun _ => false, 0, [], rfl, s2.trans (same_upd np), upd_same, by rw [upd_ne nep]; exact upd_same, fun x => ⟨fun h => by simp at h, fun ⟨q, h, _⟩ => by simp at h⟩, Nat.zero_le _, by rw [upd_ne nop, upd_ne noe, upd_same]; rfl, Rg.nil, by simp, by simp, by simp⟩
      (fun i σ H1 _ ⟨_, _, _, _, _, _, _, _, h, _⟩ => SqL.of h) ?_ ?_⟩
    · rintro i yy σ H1 hi ⟨v3, v4, v5, S, c, as, rfl, s3, h1, h2, hS, hc, ho, hg, hoa, hnd, hfr⟩
      obtain ⟨y, hy, rfl⟩ := of_nv_get hi
      have hyz : y ∈ zs := List.mem_of_getElem? hy
      have hyk : y ∈ ks := zp.mem_iff.mp hyz
      have hyn : y < n := zlt y hyz
      have hil : i < zs.length := (List.getElem?_eq_some_iff.mp hy).1
      have ml := marked_iff PF zs1 zlt zall hy
      -- first in seen
      refine ⟨_, rfl, _, rfl, (y : Int), e, S, c, rfl, rfl, h2, _, rfl, ?_⟩
      have stay : headB f n y = false → ∃ (u3 u4 u5 : Option V) (S : Int → Bool) (c : Nat) (as : List Addr), ([some (.ref d), some (.ref o), some (.ref e), some (nv y), v4, v5] : L2.St) = [some (.ref d), some (.ref o), some (.ref e), u3, u4, u5] ∧ Same H H1 ∧
          H1 p = some (.lst (zs.map nv)) ∧ H1 e = some (SetO w e S c) ∧ (∀ x : Nat, S (x : Int) = true ↔ Marked f n (zs.take (i + 1)) x) ∧ c ≤ (i + 1) * n ∧
          H1 o = some (.lst (as.map V.ref)) ∧ Rg H1 as (ringsIn f n (zs.take (i + 1))) ∧ o ∉ as ∧ as.Nodup ∧ (∀ a ∈ as, H a = none) := fun hb =>
        ⟨_, v4, v5, S, c, as, rfl, s3, h1, h2, fun x => (hS x).trans (marked_stay hy hb x).symm, by rw [Nat.succ_mul]; omega, ho, by rw [ringsIn_stay hy hb]; exact hg, hoa, hnd, hfr⟩
      by_cases cs : S (y : Int) = true
      · rw [cs]
        refine iteT (iteT ?_)
        have l0 := ml.mp ((hS y).mp cs)
        obtain ⟨w3, w4, w5, S1, c1, as1, q1, q2⟩ := stay (by unfold headB; rw [l0]; rfl)
        exact ⟨w3, w4, w5, S1, c1, as1, q1, q2⟩
      · have cs' : S (y : Int) = false := by simpa using cs
        rw [cs']
        refine iteF ?_
        have l1 : lead f n y = true := by
          cases z : lead f n y with
          | true => rfl
          | false => exact absurd ((hS y).mpr (ml.mpr z)) cs
        refine ⟨_, rfl, _, rfl, d, _, rfl, get s3 y hyk, _, rfl, rfl, _, rfl, ?_⟩
        by_cases cf : f y = y
        · refine decT (by rw [cf]) ?_
          obtain ⟨w3, w4, w5, S1, c1, as1, q1, q2⟩ := stay (by unfold headB; rw [cf]; simp)
          exact ⟨w3, w4, w5, S1, c1, as1, q1, q2⟩
        refine decF (fun z => cf (by have := V.int.inj z; omega)) ?_
        have hb : headB f n y = true := headB_iff.mpr ⟨l1, cf⟩
        obtain ⟨p0, pe, pl, _⟩ := per_spec PF hyn
        have p1 : per f n y ≠ 1 := fun z => cf ((per_one PF hyn).mp z)
        -- ring = [first]; place = moves[first]
        refine ⟨_, rfl, by show 1 ≤ sizeLine; decide, fun r nr => ?_⟩
        have nro : o ≠ r := ne_of_none ho nr
        have nre : e ≠ r := ne_of_none h2 nr
        have nrp : p ≠ r := ne_of_none h1 nr
        have hrn : H r = none := s3.free nr
        have hra : r ∉ as := fun hm => by
          obtain ⟨z, hz⟩ := hg.know hm
          rw [hz] at nr
          cases nr
        have hea : e ∉ as := fun hm => by
          obtain ⟨z, hz⟩ := hg.know hm
          rw [hz] at h2
          cases h2
        have s4 : Same H (upd H1 r (.lst [nv y])) := mutS s3 hrn
        refine ⟨_, rfl, _, rfl, d, _, rfl, get s4 y hyk, ?_⟩
        -- while place != first
        have bnd : (i + 1) * n ≤ 4000 := Nat.le_trans (Nat.mul_le_mul_right n (by omega)) M.small
        refine ⟨fun m σ H2 => ∃ (j : Nat) (S' : Int → Bool) (c' : Nat), j < per f n y ∧ m = per f n y - (j + 1) ∧ σ = [some (.ref d), some (.ref o), some (.ref e), some (nv y), some (.ref r), some (nv (it f (j + 1) y))] ∧ Same H H2 ∧
            H2 p = some (.lst (zs.map nv)) ∧ H2 e = some (SetO w e S' c') ∧ (∀ x : Nat, S' (x : Int) = true ↔ (S (x : Int) = true ∨ ∃ k, 1 ≤ k ∧ k < j + 1 ∧ x = it f k y)) ∧ c' ≤ i * n + j ∧
            H2 r = some (.lst ((pref f y (j + 1)).map nv)) ∧ H2 o = some (.lst (as.map V.ref)) ∧ Rg H2 as (ringsIn f n (zs.take i)), ⟨_, 0, S, c, p0, rfl, rfl, s4, by rw [upd_ne nrp]; exact h1, by rw [upd_ne nre]; exact h2, fun x => ⟨fun h => .inl h, fun h => h.elim id fun ⟨k, k1, k2, _⟩ => by omega⟩, hc, upd_same, by rw [upd_ne nro]; exact ho, hg.upd hra⟩, ?_⟩
        rintro m σ H2 ⟨j, S', c', hj, rfl, rfl, t3, t1, t2, tS, tc, tr, to, tg⟩
        have hlt : it f j y < n := PF.it_lt j hyn
        refine ⟨_, rfl, _, rfl, rfl, _, rfl, ?_⟩
        by_cases cb : it f (j + 1) y = y
        · have ej := (back_iff PF hyn hj).mp cb
          rw [cb, decide_eq_true rfl]
          refine iteF ?_
          have eR : pref f y (j + 1) = ring f n y := by rw [ej]; rfl
          rw [eR] at tr
          -- rings.append(ring)
          refine ⟨_, rfl, .inl ⟨rfl, _, SqL.of to⟩, _, rfl, o, _, _, rfl, rfl, to, small64 (by rw [List.length_map, tg.len]; have := ringsIn_len f n (zs.take i); rw [List.length_take] at this; have := M.few; omega), ?_⟩
          have nop' : p ≠ o := nop.symm
          have noe' : e ≠ o := noe.symm
          refine ⟨_, _, _, S', c', as ++ [r], rfl, mutS t3 no, by rw [upd_ne nop']; exact t1, by rw [upd_ne noe']; exact t2, fun x => ?_, ?_, by rw [upd_same, List.map_append]; rfl, ?_, ?_, nd_snoc hnd hra, ?_⟩
          · rw [tS x, hS x, marked_more hy hb x, ring_tail PF hyn, ← ej]
          · rw [Nat.succ_mul]; omega
          · rw [ringsIn_more hy hb]
            exact (tg.upd hoa).snoc (by rw [upd_ne nro.symm]; exact tr)
          · rw [List.mem_append, not_or]
            exact ⟨hoa, fun h => nro (List.mem_singleton.mp h)⟩
          · intro b hb'
            rcases List.mem_append.mp hb' with h | h
            · exact hfr b h
            · rw [List.mem_singleton.mp h]; exact hrn
        · have ej : j + 1 ≠ per f n y := fun z => cb ((back_iff PF hyn hj).mpr z)
          have hk1 : it f (j + 1) y ∈ ks := it_in M hyk (j + 1)
          have hin : i * n + n ≤ 4000 := by rw [← Nat.succ_mul]; exact bnd
          rw [decide_eq_false (fun z => cb (by have := V.int.inj z; omega))]
          refine iteT ⟨fun σ' H' => ∃ (S' : Int → Bool) (c' : Nat), σ' = [some (.ref d), some (.ref o), some (.ref e), some (nv y), some (.ref r), some (nv (it f (j + 1 + 1) y))] ∧ Same H H' ∧
            H' p = some (.lst (zs.map nv)) ∧ H' e = some (SetO w e S' c') ∧ (∀ x : Nat, S' (x : Int) = true ↔ (S (x : Int) = true ∨ ∃ k, 1 ≤ k ∧ k < j + 1 + 1 ∧ x = it f k y)) ∧ c' ≤ i * n + (j + 1) ∧
            H' r = some (.lst ((pref f y (j + 1 + 1)).map nv)) ∧ H' o = some (.lst (as.map V.ref)) ∧ Rg H' as (ringsIn f n (zs.take i)), fun σ' H' ⟨S2, c2, h⟩ => ⟨per f n y - (j + 1 + 1), by omega, j + 1, S2, c2, by omega, rfl, h⟩, ?_⟩
          -- ring.append(place); seen.add(place); place = moves[place]
          refine ⟨_, rfl, .inl ⟨rfl, _, SqL.of tr⟩, _, rfl, r, _, _, rfl, rfl, tr, small64 (by rw [List.length_map, pref_len]; omega), ?_⟩
          have u2 : (upd H2 r (.lst ((pref f y (j + 1)).map nv ++ [nv (it f (j + 1) y)]))) e = some (SetO w e S' c') := by rw [upd_ne nre]; exact t2
          refine ⟨_, rfl, ⟨e, S', c', rfl, u2⟩, _, rfl, e, _, S', c', rfl, rfl, u2, by show c' + 1 < 4096; omega, ?_⟩
          have s5 : Same H (upd (upd H2 r (.lst ((pref f y (j + 1)).map nv ++ [nv (it f (j + 1) y)]))) e (SetO w e (fun k => S' k || decide (k = ((it f (j + 1) y : Nat) : Int))) (if S' ((it f (j + 1) y : Nat) : Int) = true then c' else c' + 1))) := mutS (mutS t3 hrn) ne'
          refine ⟨_, rfl, _, rfl, d, _, rfl, get s5 _ hk1, ?_⟩
          refine ⟨_, _, rfl, s5, by rw [upd_ne nep.symm, upd_ne nrp]; exact t1, upd_same, fun x => ?_, by split <;> omega, by rw [upd_ne nre.symm, upd_same, pref_succ f y (j + 1), List.map_append]; rfl, by rw [upd_ne noe, upd_ne nro]; exact to, (tg.upd hra).upd hea⟩
          rw [Bool.or_eq_true, decide_eq_true_eq, tS x]
          constructor
          · rintro ((h | ⟨k, k1, k2, e1⟩) | h)
            · exact .inl h
            · exact .inr ⟨k, k1, by omega, e1⟩
            · exact .inr ⟨j + 1, by omega, by omega, by omega⟩
          · rintro (h | ⟨k, k1, k2, e1⟩)
            · exact .inl (.inl h)
            · by_cases ck : k = j + 1
              · subst ck; exact .inr (by rw [e1])
              · exact .inl (.inr ⟨k, k1, by omega, e1⟩)
    · rintro σ H1 ⟨v3, v4, v5, S, c, as, rfl, s3, h1, h2, hS, hc, ho, hg, hoa, hnd, hfr⟩
      rw [List.length_map, List.take_length, ringsIn_all zs1 zlt zall] at hg
      exact ⟨_, rfl, q o as H1 s3 no hfr hoa hnd ho hg⟩
end
/-! ### wires -/
/-- a wire's two attributes -/
def wF (n : Nat) (l : Addr) : List (Str × V) := [("size", nv n), ("_images", .ref l)]
theorem lk1 {k : Str} {v : V} {r : List (Str × V)} : List.lookup k ((k, v) :: r) = some v := by simp only [List.lookup, beq_self_eq_true k]
theorem lk2 {k g : Str} {v : V} {r : List (Str × V)} (h : (k == g) = false) : List.lookup k ((g, v) :: r) = List.lookup k r := by simp only [List.lookup, h]
theorem wF_size (n : Nat) (l : Addr) : (wF n l).lookup ("size" : Str) = some (nv n) := lk1
theorem wF_im (n : Nat) (l : Addr) : (wF n l).lookup ("_images" : Str) = some (.ref l) := (lk2 (by decide +kernel)).trans lk1
theorem wF_no (n : Nat) (l : Addr) {m : Str} (h1 : (m == ("size" : Str)) = false) (h2 : (m == ("_images" : Str)) = false) : (wF n l).lookup m = none := (lk2 h1).trans (lk2 h2)
theorem wF_new (n : Nat) (l : Addr) : putF "_images" (.ref l) (putF "size" (nv n) []) = wF n l := by
  show putF "_images" (V.ref l) [(("size" : Str), nv n)] = _
  show (if (("size" : Str) = "_images") then _ else (("size" : Str), nv n) :: putF "_images" (V.ref l) []) = wF n l
  rw [if_neg (by decide +kernel)]
  rfl
/-- the wire with the images im, its list at l -/
def WireL (C : Addr) (H : Hp) (a l : Addr) (im : List Nat) : Prop := (∃ dx, H a = some (.ins C dx (wF im.length l))) ∧ H l = some (.lst (im.map nv))
def WireAt (C : Addr) (H : Hp) (a : Addr) (im : List Nat) : Prop := ∃ l, WireL C H a l im
theorem WireAt.mono {C : Addr} {H H' : Hp} {a : Addr} {im : List Nat} (x : WireAt C H a im) (s : Same H H') : WireAt C H' a im := by
  obtain ⟨l, ⟨dx, h1⟩, h2⟩ := x
  exact ⟨l, ⟨dx, s _ _ h1⟩, s _ _ h2⟩
/-- the class as the walk asks of it -/
structure WTxt (K : PySem.W.Frag) (C : Addr) : Prop where
  cl : Cls K C
  nS : NoAttr K C "size"
  nI : NoAttr K C "_images"
theorem enum_graph (im : List Nat) : mergeK [] (enumKV 0 (im.map nv)) = natKV (graph (ap im) (List.range im.length)) := by
  have key : ∀ (l : List (Nat × Nat)) (g : List (Nat × Nat)), ((g ++ l).map Prod.fst).Nodup → mergeK (natKV g) (natKV l) = natKV (g ++ l) := by
    intro l
    induction l with
    | nil => intro g _; rw [List.append_nil]; rfl
    | cons p l ih =>
      intro g hn
      have h1 : p.1 ∉ g.map Prod.fst := by
        rw [List.map_append] at hn
        intro hm
        exact (List.nodup_append.mp hn).2.2 _ hm _ List.mem_cons_self rfl
      show mergeK (putK (natKV g) (Sum.inl (p.1 : Int)) (nv p.2)) (natKV l) = _
      rw [putK_new _ (natKV_none h1)]
      have e : natKV g ++ [(Sum.inl (p.1 : Int), nv p.2)] = natKV (g ++ [p]) := by rw [natKV_append]; rfl
      rw [e, ih (g ++ [p]) (by rw [List.append_assoc]; exact hn), List.append_assoc]
      rfl
  have e : enumKV 0 (im.map nv) = natKV (graph (ap im) (List.range im.length)) := by
    apply List.ext_getElem?
    intro i
    rw [enumKV_get, natKV, graph, List.getElem?_map, List.getElem?_map, List.getElem?_map, Nat.zero_add]
    by_cases c : i < im.length
    · rw [List.getElem?_range c, ap_get c]; rfl
    · rw [List.getElem?_eq_none (show im.length ≤ i by omega), List.getElem?_eq_none (show (List.range im.length).length ≤ i by rw [List.length_range]; omega)]; rfl
  rw [e]
  have := key (graph (ap im) (List.range im.length)) [] (by rw [List.nil_append, graph_fst]; exact List.nodup_range)
  rw [List.nil_append] at this
  exact this
theorem moves_of_perm {im : List Nat} (hI : IsPerm im) (hn : im.length ≤ 60) : Moves (ap im) im.length (List.range im.length) where
  perm := hI.perm
  nd := List.nodup_range
  lt k h := List.mem_range.mp h
  all x h _ := List.mem_range.mpr h
  cl k h := List.mem_range.mpr (hI.perm.lt k (List.mem_range.mp h))
  few := by rw [List.length_range]; omega
  small := by
    rw [List.length_range]
    exact Nat.le_trans (Nat.mul_le_mul hn hn) (by decide)
section
variable {P : Program} {w : World} {K : PySem.W.Frag} {mg : Str → Option Value} {base : Heap} {C : Addr}
/-! ### Wire.__init__ -/
abbrev s_Wire_init : Stmt := inClass (top 16) 0
theorem sc_Wire_init : FnScope ["self", "size", "rings", "moves", "place"] ["self", "size", "rings"] (defScope s_Wire_init) := ⟨rfl, rfl, rfl, by decide +kernel, rfl, by decide +kernel, by decide +kernel⟩

/-- rings that f leads on; f stays elsewhere -/
structure RingsOf (f : Nat → Nat) (n : Nat) (rs : List (List Nat)) : Prop where
  ne : ∀ r ∈ rs, r ≠ []
  nd : rs.flatten.Nodup
  lt : ∀ x ∈ rs.flatten, x < n
  fol : ∀ r ∈ rs, Follows f r
  stay : ∀ x, x < n → x ∉ rs.flatten → f x = x
theorem RingsOf.few {f : Nat → Nat} {n : Nat} {rs : List (List Nat)} (R : RingsOf f n rs) : rs.flatten.length ≤ n := nodup_le n _ R.nd R.lt
theorem ringsOf_perm {f : Nat → Nat} {n : Nat} (P : PermF f n) : RingsOf f n (rings f n) :=
  ⟨fun _ h => rings_ne P h, rings_nodup P, fun _ h => rings_lt P h, fun _ h => rings_follow P h, fun _ h1 h2 => rings_stay P h1 h2⟩
def spInit (K : PySem.W.Frag) (C : Addr) : Sp := fun vs H Q _ => ∃ (p dx a : Addr) (n : Nat) (f : Nat → Nat) (as : List Addr) (rs : List (List Nat)), vs = [.ref p, nv n, .ref a] ∧ H p = some (.ins C dx []) ∧ SqL K H a (as.map V.ref) ∧ Rg H as rs ∧ RingsOf f n rs ∧ 1 ≤ n ∧ n ≤ 1000 ∧
  ∀ (l : Addr) (H' : Hp), (∀ b o, H b = some o → b ≠ p → H' b = some o) → H l = none → H' p = some (.ins C dx (wF n l)) → H' l = some (.lst (((List.range n).map f).map nv)) → Q .non H'
theorem ok_Wire_init {f : Addr} {fd : FuncData} (F : Fun K "__init__" "Wire.__init__" s_Wire_init f fd) (T : Blt mg) (W : WTxt K C) (D_moves_of : DefOk P w K mg base CX0 1 "moves_of" ["rings", "size"] [] (spMoves K)) :
    FnOk P w K mg base CX0 2 f fd ["self", "size", "rings"] (spInit K C) := by
  refine F.ok sc_Wire_init (fun vs H Q E h => ?_) (fun cdv A outer s H vs Q E hr h => ?_)
  · obtain ⟨p, dx, a, n, f, as, rs, rfl, _⟩ := h; rfl
  · obtain ⟨p, dx, a, n, f, as, rs, rfl, hp, hS, hg, R, n1, n2, q⟩ := h
    have hu := hu_of hr
    refine ⟨_, (pss_cons (ps_if (pt_cmpR op_lt (pv 1) pe_int (nomark _)) pss_never pss_nil)
    (pss_cons (ps_set (i := 3) sc_Wire_init.nd rfl (.inr rfl) (pe_d D_moves_of hr pass0 (pa_cons (pv 2) (pa_cons (pv 1) pa_nil))))
    (pss_cons (ps_fld (pv 0) (pv 1) rfl)
    (pss_one (ps_fld (pv 0) (pe_lc (own := [("place", 4)]) (tt := tYes) rfl sc_Wire_init.nd (pi_range1 (by rfl) T.range (pa_cons (pv 1) pa_nil)) (blkOk_by (N := ["self", "size", "rings", "moves", "place"]) (sc := defScope s_Wire_init) (by decide +kernel)) (fun _ _ _ _ _ => (pg_name (i := 4) sc_Wire_init.nd rfl (.inl rfl))) (fun _ _ _ _ _ => pts_nil) (fun _ _ _ _ _ => by exact (pe_dget2 hu (pv 3) (pv 4) (pv 4) ⟨rfl, rfl, rfl, rfl⟩))) rfl))))), ?_⟩
    refine ⟨_, rfl, _, _, rfl, rfl, _, rfl, decF (by omega) ?_⟩
    -- moves = moves_of(rings, size)
    refine ⟨_, rfl, _, rfl, a, nv n, as, rs, rfl, hS, hg, .inr ⟨n, rfl, R.lt⟩, R.ne, R.nd, Nat.le_trans R.few n2, fun d H1 s1 nd hd => ?_⟩
    rw [pairs_follow R.fol] at hd
    have hp1 := s1 _ _ hp
    -- self.size = size
    refine ⟨_, rfl, _, rfl, p, C, dx, [], rfl, hp1, W.cl, W.nS, (by show 0 < 1000; decide), ?_⟩
    have ndp : d ≠ p := fun e => by rw [e, hp] at nd; cases nd
    -- self._images = [..]
    refine ⟨_, rfl, _, rfl, by omega, by omega, fun l nl => ?_⟩
    rw [Int.toNat_natCast]
    have npl : p ≠ l := ne_of_none (H := upd H1 p _) upd_same nl
    have hl0 : H l = none := by
      cases z : H l with
      | none => rfl
      | some o =>
        rw [upd_ne npl.symm, s1 _ _ z] at nl
        cases nl
    refine lc_range (lo := 0) (n := n) (fun i H2 => Same (upd H1 p (.ins C dx (putF "size" (nv n) []))) H2 ∧ H2 l = some (.lst (((List.range i).map f).map nv))) ⟨same_upd nl, upd_same⟩ ?_ ?_
    · rintro i H2 hi ⟨s2, hl⟩
      rw [Int.zero_add]
      refine ⟨rfl, ?_⟩
      refine yesT ?_
      have hd2 : H2 d = some (.dK (natKV (graph f rs.flatten))) := s2 _ _ (by rw [upd_ne ndp]; exact hd)
      refine ⟨_, rfl, d, rfl, .inl ⟨_, .of hd2⟩, _, rfl, _, rfl, _, .inl ⟨_, Sum.inl (i : Int), .of hd2, rfl, rfl⟩, _, hl, small64 (by rw [List.length_map, List.length_map, List.length_range]; omega), mutS s2 nl, ?_⟩
      rw [upd_same, graph_get R.nd, List.range_succ, List.map_append, List.map_append]
      by_cases c : i ∈ rs.flatten
      · rw [if_pos c]; rfl
      · rw [if_neg c]
        show _ = some (HO.lst (((List.range i).map f).map nv ++ [nv (f i)]))
        rw [R.stay i hi c]
        rfl
    · rintro H2 ⟨s2, hl⟩
      refine ⟨_, rfl, p, C, dx, _, rfl, s2 _ _ upd_same, W.cl, W.nI, (by show 1 < 1000; decide), ?_⟩
      refine q l _ (fun b o hb hbp => ?_) hl0 (by rw [upd_same, wF_new]) (by rw [upd_ne npl.symm]; exact hl)
      rw [upd_ne hbp]
      exact s2 _ _ (by rw [upd_ne hbp]; exact s1 _ _ hb)
/-! ### Wire.rings -/
abbrev s_Wire_rings : Stmt := inClass (top 16) 3
theorem sc_Wire_rings : FnScope ["self"] ["self"] (defScope s_Wire_rings) := ⟨rfl, rfl, rfl, by decide +kernel, rfl, by decide +kernel, by decide +kernel⟩

def spWRings (C : Addr) : Sp := fun vs H Q _ => ∃ (a : Addr) (im : List Nat), vs = [.ref a] ∧ WireAt C H a im ∧ IsPerm im ∧ im.length ≤ 60 ∧
  ∀ (o : Addr) (as : List Addr) (H' : Hp), Same H H' → H o = none → (∀ a ∈ as, H a = none) → o ∉ as → as.Nodup → H' o = some (.lst (as.map V.ref)) → Rg H' as (rings (ap im) im.length) → Q (.ref o) H'
theorem ok_Wire_rings {f : Addr} {fd : FuncData} (F : Fun K "rings" "Wire.rings" s_Wire_rings f fd) (T : Blt mg) (W : WTxt K C) (D_rings_of : DefOk P w K mg base CX0 1 "rings_of" ["moves"] [] spRingsOf) :
    FnOk P w K mg base CX0 2 f fd ["self"] (spWRings C) := by
  refine F.ok sc_Wire_rings (fun vs H Q E h => ?_) (fun cdv A outer s H vs Q E hr h => ?_)
  · obtain ⟨a, im, rfl, _⟩ := h; rfl
  · obtain ⟨a, im, rfl, ⟨l, ⟨dx, h1⟩, h2⟩, hI, hn, q⟩ := h
    refine ⟨_, (pss_one (ps_ret (pe_d D_rings_of hr pass0 (pa_cons (pe_dictEnum rfl (by rfl) T.dict (by rfl) T.enumerate (pe_fld (pv 0) rfl)) pa_nil)))), ?_⟩
    refine ⟨_, rfl, a, C, dx, _, _, rfl, h1, W.cl, W.nI, wF_im _ _, l, _, rfl, SqL.of h2, fun d nd => ?_⟩
    rw [enum_graph]
    refine ⟨d, ap im, im.length, _, rfl, upd_same, moves_of_perm hI hn, fun o as H' s no nas hoa hnd ho hg => ?_⟩
    have s0 : Same H (upd H d (.dK (natKV (graph (ap im) (List.range im.length))))) := same_upd nd
    exact q o as H' (s0.trans s) (s0.free no) (fun b hb => s0.free (nas b hb)) hoa hnd ho hg
/-! ### Wire.order -/
abbrev s_Wire_order : Stmt := inClass (top 16) 5
theorem sc_Wire_order : FnScope ["self", "least", "ring"] ["self"] (defScope s_Wire_order) := ⟨rfl, rfl, rfl, by decide +kernel, rfl, by decide +kernel, by decide +kernel⟩

def spOrder (C : Addr) : Sp := fun vs H Q _ => ∃ (a : Addr) (im : List Nat), vs = [.ref a] ∧ WireAt C H a im ∧ IsPerm im ∧ im.length ≤ 60 ∧ ∀ H' : Hp, Same H H' → Q (nv (lcmTo (rings (ap im) im.length))) H'
theorem ok_Wire_order {f : Addr} {fd : FuncData} (F : Fun K "order" "Wire.order" s_Wire_order f fd) (B : Blt mg) (T : WTxt K C) (lcm : mg "lcm" = some (.builtin "math.lcm")) (D_Wire_rings : MethOk P w K mg base CX0 2 C "rings" ["self"] [] (spWRings C)) :
    FnOk P w K mg base CX0 3 f fd ["self"] (spOrder C) := by
  refine F.ok sc_Wire_order (fun vs H Q E h => ?_) (fun cdv A outer s H vs Q E hr h => ?_)
  · obtain ⟨a, im, rfl, _⟩ := h; rfl
  · obtain ⟨a, im, rfl, hW, hI, hn, q⟩ := h
    have P := hI.perm
    obtain ⟨l, ⟨dx, h1⟩, h2⟩ := id hW
    refine ⟨_, (pss_cons (ps_set (i := 1) sc_Wire_order.nd rfl (.inl rfl) pe_int)
      (pss_cons (ps_for PassesOwn.never rfl (pi_list (pe_m0 D_Wire_rings T.cl hr pass0 (pv 0))) (pg_name (i := 2) sc_Wire_order.nd rfl (.inl rfl)) (pss_one (ps_set (i := 1) sc_Wire_order.nd rfl (.inl rfl) (pe_callBfun cr_lcm (by rfl) lcm (pa_cons (pv 1) (pa_cons (pe_callB call_len_seq (by rfl) B.len PySem.boot_len (pa_cons (pv 2) pa_nil)) pa_nil))))))
      (pss_one (ps_ret (pv 1))))), ?_⟩
    refine ⟨_, rfl, a, dx, _, rfl, h1, wF_no _ _ (by decide +kernel) (by decide +kernel), a, im, rfl, hW, hI, hn, fun o as H1 s1 no nas hoa hnd ho hg => ?_⟩
    refine ⟨o, rfl, ⟨_, SqL.of ho⟩, for_list (K := K) (a := o) (xs := as.map V.ref) (fun i σ H2 => ∃ v2 : Option V, σ = [some (.ref a), some (nv (lcmTo ((rings (ap im) im.length).take i))), v2] ∧ H2 = H1) ⟨none, rfl, rfl⟩ (fun i σ H2 _ ⟨_, _, e⟩ => by rw [e]; exact SqL.of ho) ?_ ?_⟩
    · rintro i y σ H2 hi ⟨v2, rfl, rfl⟩
      obtain ⟨b, hb, rfl⟩ : ∃ b, as[i]? = some b ∧ y = V.ref b := by
        rw [List.getElem?_map] at hi
        cases e : as[i]? with
        | none => rw [e] at hi; cases hi
        | some b => rw [e] at hi; exact ⟨b, rfl, (Option.some.inj hi).symm⟩
      have hil : i < (rings (ap im) im.length).length := by rw [← hg.len]; exact (List.getElem?_eq_some_iff.mp hb).1
      obtain ⟨r, hr'⟩ : ∃ r, (rings (ap im) im.length)[i]? = some r := ⟨_, List.getElem?_eq_getElem hil⟩
      have hbr := hg.at_ i b r hb hr'
      have rlen : r.length ≤ im.length := by
        obtain ⟨p, hp, rfl⟩ := List.mem_map.mp (List.mem_of_getElem? hr')
        rw [ring_len]
        exact (per_spec P (mem_heads.mp hp).1).2.2.1
      refine ⟨_, rfl, _, rfl, b, _, rfl, .inl (SqL.of hbr), _, _, rfl, lcmTo_lt P hn i, ?_, ?_⟩
      · rw [List.length_map]; omega
      · refine ⟨some (V.ref b), ?_, rfl⟩
        rw [List.length_map, lcmTo_snoc hr']
        rfl
    · rintro σ H2 ⟨v2, rfl, rfl⟩
      rw [List.length_map, hg.len, List.take_length]
      exact ⟨_, rfl, q _ s1⟩
end
theorem dec_nv (a b : Nat) : decide (nv a = nv b) = decide (a = b) := by
  by_cases c : a = b
  · rw [decide_eq_true c, decide_eq_true (by rw [c])]
  · rw [decide_eq_false c, decide_eq_false (fun z => c (by have := V.int.inj z; omega))]
section
variable {P : Program} {w : World} {K : PySem.W.Frag} {mg : Str → Option Value} {base : Heap} {C : Addr}
/-! ### _law_wire -/
abbrev s_l_wire : Stmt := top 42
theorem sc_l_wire : FnScope ["_law_images"] ["_law_images"] (defScope s_l_wire) := ⟨rfl, rfl, rfl, by decide +kernel, rfl, by decide +kernel, by decide +kernel⟩

def spLWire (K : PySem.W.Frag) (C : Addr) : Sp := fun vs H Q _ => ∃ (a : Addr) (im : List Nat), vs = [.ref a] ∧ SqL K H a (im.map nv) ∧ IsPerm im ∧ 1 ≤ im.length ∧ im.length ≤ 100 ∧
  ∀ (x l : Addr) (H' : Hp), Same H H' → H x = none → H l = none → WireL C H' x l im → Q (.ref x) H'
theorem ok_l_wire {f : Addr} {fd : FuncData} (F : Fun K "_law_wire" "_law_wire" s_l_wire f fd) (T : Blt mg) (M_Wire : MakeOk P w K mg base CX0 2 C "Wire" ["self", "size", "rings"] [] (spInit K C)) (D_l_rings : DefOk P w K mg base CX0 1 "_law_rings" ["_law_images"] [] (spRings K)) :
    FnOk P w K mg base CX0 4 f fd ["_law_images"] (spLWire K C) := by
  refine F.ok sc_l_wire (fun vs H Q E h => ?_) (fun cdv A outer s H vs Q E hr h => ?_)
  · obtain ⟨a, im, rfl, _⟩ := h; rfl
  · obtain ⟨a, im, rfl, hS, hI, n1, n2, q⟩ := h
    have P := hI.perm
    refine ⟨_, (pss_one (ps_ret (pe_mk' M_Wire hr pass0 (pa_cons (pe_callB call_len_seq (by rfl) T.len PySem.boot_len (pa_cons (pv 0) pa_nil)) (pa_cons (pe_d D_l_rings hr pass0 (pa_cons (pv 0) pa_nil)) pa_nil))))), ?_⟩
    refine ⟨_, rfl, a, _, rfl, .inl hS, _, rfl, a, im, rfl, hS, hI, n2, fun o as H1 s1 no nas hoa hnd ho hg => ?_⟩
    intro x dx nx ndx nex
    have s2 : Same H1 (upd (upd H1 dx (.own x)) x (.ins C dx [])) := (same_upd ndx).trans (same_upd (by rw [upd_ne nex.symm]; exact nx))
    rw [List.length_map]
    refine ⟨x, dx, o, im.length, ap im, as, _, rfl, upd_same, SqL.of (s2 _ _ ho), hg.mono s2, ringsOf_perm P, n1, by omega, fun l H2 k nl hx hl => ⟨rfl, ?_⟩⟩
    have s3 : Same H1 H2 := Same.made nx ndx k
    rw [im_eq] at hl
    exact q x l H2 (s1.trans s3) (s1.free nx) ((s1.trans s2).free nl) ⟨⟨dx, hx⟩, hl⟩
/-! ### _law_of_kind -/
abbrev s_l_of_kind : Stmt := top 40
theorem sc_l_of_kind : FnScope ["_law_kind", "_law_bound", "_law_cell_here", "_law_n", "_law_draw", "_law_mixed", "_law_out", "_law_pairs", "_law_k"] ["_law_kind", "_law_bound", "_law_cell_here", "_law_n", "_law_draw"] (defScope s_l_of_kind) := ⟨rfl, rfl, rfl, by decide +kernel, rfl, by decide +kernel, by decide +kernel⟩

def spKind : Sp := fun vs H Q _ => ∃ (k : Str) (c : Int) (n d : Nat), vs = [.str k, .non, .int c, nv n, nv d] ∧ n ≤ 100 ∧
  ∀ (im : List Nat) (p : Addr) (H' : Hp), Same H H' → H p = none → H' p = some (.lst (im.map nv)) → IsPerm im → im.length = n → Q (.ref p) H'
theorem ok_l_of_kind {f : Addr} {fd : FuncData} (F : Fun K "_law_of_kind" "_law_of_kind" s_l_of_kind f fd) (T : Blt mg) (D_l_drawn : DefOk P w K mg base CX0 2 "_law_drawn" ["_law_cell_here", "_law_n"] [] spDrawn) :
    FnOk P w K mg base CX0 3 f fd ["_law_kind", "_law_bound", "_law_cell_here", "_law_n", "_law_draw"] spKind := by
  refine F.ok sc_l_of_kind (fun vs H Q E h => ?_) (fun cdv A outer s H vs Q E hr h => ?_)
  · obtain ⟨k, c, n, d, rfl, _⟩ := h; rfl
  · obtain ⟨k, c, n, d, rfl, hn, q⟩ := h
    refine ⟨_, (pss_cons (ps_set (i := 5) sc_l_of_kind.nd rfl (.inl rfl) (pe_d D_l_drawn hr pass0 (pa_cons (pv 2) (pa_cons (pv 3) pa_nil))))
    (pss_cons (ps_if (pt_cmpR op_eq (pv 0) pe_str (nomark _)) (pss_one (ps_ret (pv 5))) pss_nil)
    (pss_cons (ps_set (i := 6) sc_l_of_kind.nd rfl (.inl rfl) (pe_listRg rfl (by rfl) T.list (prg_1 (by rfl) T.range (pv 3))))
    (pss_cons (ps_set (i := 7) sc_l_of_kind.nd rfl (.inl rfl) (pe_op op_fdiv (pv 3) pe_int))
    (pss_cons (ps_if (pt_cmpR op_eq (pv 0) pe_str (nomark _)) (pss_cons (ps_set (i := 7) sc_l_of_kind.nd rfl (.inl rfl) (pe_op op_mod (pv 4) (pe_op op_add (pe_op op_fdiv (pv 3) pe_int) pe_int)))
    (pss_one (ps_if (PW.pt (pw_and (pt_cmpR op_notN (pv 1) pe_non (nomark _)) (pw_and1 (pt_cmpR op_gt (pv 7) (pv 1) (nomark _))))) (pss_one (ps_set (i := 7) sc_l_of_kind.nd rfl (.inl rfl) (pv 1))) pss_nil))) pss_nil)
    (pss_cons (ps_for PassesOwn.never rfl (pi_range1 (by rfl) T.range (pa_cons (pv 7) pa_nil)) (pg_name (i := 8) sc_l_of_kind.nd rfl (.inl rfl)) (pss_cons (ps_asg (pe_ix ix_list (pv 5) (pe_op op_add (pe_op op_mul pe_int (pv 8)) pe_int) (fun _ _ => rfl)) (pg_sub (pv 6) (pe_ix ix_list (pv 5) (pe_op op_mul pe_int (pv 8)) (fun _ _ => rfl)) set_list))
    (pss_one (ps_asg (pe_ix ix_list (pv 5) (pe_op op_mul pe_int (pv 8)) (fun _ _ => rfl)) (pg_sub (pv 6) (pe_ix ix_list (pv 5) (pe_op op_add (pe_op op_mul pe_int (pv 8)) pe_int) (fun _ _ => rfl)) set_list)))))
    (pss_one (ps_ret (pv 6))))))))), ?_⟩
    refine ⟨_, rfl, _, rfl, c, n, rfl, hn, fun mx m H1 s1 nm hm hI hl => ?_⟩
    refine ⟨_, rfl, rfl, _, rfl, ite2 (fun _ => ⟨_, rfl, q mx m H1 s1 nm hm hI hl⟩) (fun _ => ?_)⟩
    -- out = list(range(n)); pairs = n // 2
    refine ⟨_, rfl, _, rfl, ⟨by omega, by omega, by omega, by omega, by omega⟩, fun o no => ?_⟩
    rw [rgV_nat]
    have s2 : Same H (upd H1 o (.lst ((List.range n).map nv))) := s1.trans (same_upd no)
    have nmo : m ≠ o := ne_of_none hm no
    refine ⟨_, rfl, _, _, rfl, rfl, ⟨by decide, by decide⟩, ?_⟩
    -- the loop, for any number of pairs
    have loop : ∀ (pr : Nat) (D : Ends), pr ≤ n / 2 → D.rt = Q →
        tSeq (tFor (iRng1 (tCons (tVar 7) tNil)) (gName 8) (tSeq (tAsg (tOp (rIxL K) (tVar 5) (tOp (rI0 fun i j => .int (i + j)) (tOp (rI CMul fun i j => .int (i * j)) (tC (.int 2)) (tVar 8)) (tC (.int 1)))) (gSub (tVar 6) (tOp (rIxL K) (tVar 5) (tOp (rI CMul fun i j => .int (i * j)) (tC (.int 2)) (tVar 8))) rSetL))
          (tAsg (tOp (rIxL K) (tVar 5) (tOp (rI CMul fun i j => .int (i * j)) (tC (.int 2)) (tVar 8))) (gSub (tVar 6) (tOp (rIxL K) (tVar 5) (tOp (rI0 fun i j => .int (i + j)) (tOp (rI CMul fun i j => .int (i * j)) (tC (.int 2)) (tVar 8)) (tC (.int 1)))) rSetL)))) (tRet (tVar 6)) D
          [some (.str k), some .non, some (.int c), some (nv n), some (nv d), some (.ref m), some (.ref o), some (nv pr), none] (upd H1 o (.lst ((List.range n).map nv))) := fun pr D hpr hD => by
      refine ⟨_, rfl, (pr : Int), rfl, by omega, by omega, ?_⟩
      rw [Int.toNat_natCast]
      refine for_range (lo := 0) (n := pr) (fun i σ H2 => ∃ (v8 : Option V) (g : Nat → Nat), σ = [some (.str k), some .non, some (.int c), some (nv n), some (nv d), some (.ref m), some (.ref o), some (nv pr), v8] ∧ H2 = upd H1 o (.lst (((List.range n).map g).map nv)) ∧ Swp mx n i g)
        ⟨none, id, rfl, by rw [List.map_id], Swp.start⟩ ?_ ?_
      · rintro i σ H2 hi ⟨v8, g, rfl, rfl, S⟩
        rw [Int.zero_add]
        obtain ⟨a, ha⟩ : ∃ a, mx[2 * i]? = some a := ⟨_, List.getElem?_eq_getElem (by omega)⟩
        obtain ⟨b, hb⟩ : ∃ b, mx[2 * i + 1]? = some b := ⟨_, List.getElem?_eq_getElem (by omega)⟩
        have han : a < n := by rw [← hl]; exact hI.lt a (List.mem_of_getElem? ha)
        have hbn : b < n := by rw [← hl]; exact hI.lt b (List.mem_of_getElem? hb)
        have hM : ∀ z, SqL K (upd H1 o z) m (mx.map nv) := fun z => SqL.of (by rw [upd_ne nmo]; exact hm)
        have ea : atI (mx.map nv) (2 * (i : Int)) = some (nv a) := by
          rw [show (2 * (i : Int)) = ((2 * i : Nat) : Int) by omega]
          exact atI_nat (nv_get ha)
        have eb : atI (mx.map nv) (2 * (i : Int) + 1) = some (nv b) := by
          rw [show (2 * (i : Int) + 1) = ((2 * i + 1 : Nat) : Int) by omega]
          exact atI_nat (nv_get hb)
        have ix : ∀ (l : List V) (z : Nat), l.length = n → z < n → ixN l.length (z : Int) = some z := fun l z hl hz => by
          unfold ixN
          rw [if_pos (by omega), if_pos (by omega)]
          simp
        refine ⟨_, rfl, _, rfl, _, _, rfl, rfl, .inl ⟨by decide, by decide⟩, _, _, rfl, rfl, m, _, _, _, rfl, rfl, hM _, eb, ?_⟩
        refine ⟨_, rfl, _, rfl, _, rfl, _, _, rfl, rfl, .inl ⟨by decide, by decide⟩, m, _, _, _, rfl, rfl, hM _, ea, ?_⟩
        refine ⟨o, _, _, a, rfl, rfl, upd_same, ix _ a (by rw [List.length_map, List.length_map, List.length_range]) han, ?_⟩
        rw [upd_upd]
        refine ⟨_, rfl, _, rfl, _, _, rfl, rfl, .inl ⟨by decide, by decide⟩, m, _, _, _, rfl, rfl, hM _, ea, ?_⟩
        refine ⟨_, rfl, _, rfl, _, rfl, _, _, rfl, rfl, .inl ⟨by decide, by decide⟩, _, _, rfl, rfl, m, _, _, _, rfl, rfl, hM _, eb, ?_⟩
        refine ⟨o, _, _, b, rfl, rfl, upd_same, ix _ b (by rw [List.length_set, List.length_map, List.length_map, List.length_range]) hbn, ?_⟩
        rw [upd_upd]
        refine ⟨_, swp g a b, rfl, ?_, S.more hI hl ha hb⟩
        congr 2
        rw [← swp_list, List.map_set, List.map_set]
      · rintro σ H2 ⟨v8, g, rfl, rfl, S⟩
        refine ⟨_, rfl, ?_⟩
        have e : D.rt (V.ref o) (upd H1 o (.lst (((List.range n).map g).map nv))) := by
          rw [hD]
          exact q _ o _ (mutS s1 (s1.free no)) (s1.free no) upd_same (isPerm_of_graph S.perm) (by rw [List.length_map, List.length_range])
        exact e
    refine ⟨_, rfl, rfl, _, rfl, ite2 (fun _ => ?_) (fun _ => ?_)⟩
    · refine ⟨_, rfl, _, rfl, _, _, rfl, rfl, ⟨by decide, by decide⟩, _, _, rfl, rfl, _, _, rfl, rfl, (by show (0 : Int) < (n : Int) / 2 + 1; omega), ?_⟩
      refine ⟨_, rfl, rfl, _, rfl, iteF (iteF ?_)⟩
      have e : V.int ((d : Int) % ((n : Int) / 2 + 1)) = nv (d % (n / 2 + 1)) := by
        show V.int _ = V.int _
        congr 1
      show tSeq _ _ _ [some (.str k), some .non, some (.int c), some (nv n), some (nv d), some (.ref m), some (.ref o), some (V.int ((d : Int) % ((n : Int) / 2 + 1))), none] _
      rw [e]
      exact loop _ _ (by have := Nat.mod_lt d (show 0 < n / 2 + 1 by omega); omega) rfl
    · exact loop (n / 2) _ (Nat.le_refl _) rfl
end
/-! ### texts of rings -/
def txN (n : Nat) : Str := Str.ofString (toString (n : Int))
def txR (r : List Nat) : Str := ("(" : Str) ++ Txt.join "," (r.map txN) ++ (")" : Str)
def txJ (rs : List (List Nat)) : Str := Txt.join "" (rs.map txR)
def txA (rs : List (List Nat)) : Str := if (txJ rs).length = 0 then ("()" : Str) else txJ rs
theorem txN_len {n : Nat} (h : n < 1000) : (txN n).length ≤ 4 := by
  unfold txN
  rw [PySem.ofString_length]
  exact int_text_length_le10 (k := 3) (by decide) (by rw [Int.natAbs_natCast]; exact h)
theorem sum_le_mul {α : Type} {l : List α} {f : α → Nat} {c : Nat} (h : ∀ x ∈ l, f x ≤ c) : (l.map f).sum ≤ l.length * c := by
  induction l with
  | nil => simp
  | cons x l ih =>
    rw [List.map_cons, List.sum_cons, List.length_cons, Nat.succ_mul]
    have := h x List.mem_cons_self
    have := ih fun y hy => h y (List.mem_cons_of_mem _ hy)
    omega
theorem join_le (sep : Str) (ys : List Str) : (Txt.join sep ys).length ≤ (ys.map (·.length)).sum + ys.length * sep.length := by
  show (Builtin.Str.glued sep ys).length ≤ _
  rw [StrLaws.glued_eq_join]
  exact StrLaws.join_length_le sep ys
theorem comma_len : (("," : Str)).length = 1 := by decide +kernel
theorem open_len : (("(" : Str)).length = 1 := by decide +kernel
theorem close_len : ((")" : Str)).length = 1 := by decide +kernel
theorem none_len : (("" : Str)).length = 0 := by decide +kernel
theorem join_ring {r : List Nat} (h : ∀ x ∈ r, x < 1000) : ((r.map txN).map (·.length)).sum ≤ r.length * 4 := by
  rw [List.map_map]
  exact sum_le_mul fun x hx => txN_len (h x hx)
theorem app_len (x y : Str) : (x ++ y).length = x.length + y.length := by
  show (x.cps ++ y.cps).size = _
  rw [Array.size_append]
  rfl
theorem txR_len {r : List Nat} (h : ∀ x ∈ r, x < 1000) : (txR r).length ≤ r.length * 5 + 2 := by
  unfold txR
  have a := join_le "," (r.map txN)
  have b := join_ring h
  rw [List.length_map, comma_len] at a
  rw [app_len, app_len, open_len, close_len]
  omega
theorem txJ_sum : ∀ {rs : List (List Nat)}, (∀ x ∈ rs.flatten, x < 1000) → ((rs.map txR).map (·.length)).sum ≤ rs.flatten.length * 5 + rs.length * 2
  | [], _ => by simp
  | r :: rs, h => by
    have a := txR_len (r := r) fun x hx => h x (by rw [List.flatten_cons]; exact List.mem_append_left _ hx)
    have b := txJ_sum (rs := rs) fun x hx => h x (by rw [List.flatten_cons]; exact List.mem_append_right _ hx)
    rw [List.map_cons, List.map_cons, List.sum_cons, List.flatten_cons, List.length_append, List.length_cons]
    omega
theorem mem_len {r : List Nat} : ∀ {rs : List (List Nat)}, r ∈ rs → r.length ≤ rs.flatten.length
  | [], h => by cases h
  | q :: rs, h => by
    rw [List.flatten_cons, List.length_append]
    rcases List.mem_cons.mp h with e | e
    · rw [e]; omega
    · have := mem_len e
      omega
theorem txA_len {rs : List (List Nat)} (hx : ∀ x ∈ rs.flatten, x < 1000) (hl : rs.flatten.length ≤ 1000) (hn : rs.length ≤ 1000) : (txA rs).length ≤ 10000 := by
  have b1 := txJ_sum hx
  have a := join_le "" (rs.map txR)
  rw [List.length_map, none_len] at a
  have b2 : (txJ rs).length ≤ 10000 := by
    show (Txt.join "" (rs.map txR)).length ≤ _
    omega
  unfold txA
  by_cases c : (txJ rs).length = 0
  · rw [if_pos c]
    decide +kernel
  · rw [if_neg c]
    exact b2
def rJoin (K : PySem.W.Frag) : V → List V → Hp → VK → Prop := fun x xs H Q => ∃ (a : Str) (p : Addr) (ys : List Str), x = .str a ∧ xs = [.ref p] ∧ (SqL K H p (ys.map V.str) ∨ SqT K H p (ys.map V.str)) ∧ (ys.map (·.length)).sum + ys.length * a.length ≤ 16777216 ∧ Q (.str (Txt.join a ys)) H
def rAddS : R2 := fun x y H Q => ∃ i j, x = .str i ∧ y = .str j ∧ i.length + j.length ≤ sizeLine ∧ Q (.str (i ++ j)) H
def rStrI : List V → Hp → VK → Prop := fun xs H Q => ∃ i, xs = [.int i] ∧ i.natAbs.log2 < 1920 ∧ Q (.str (toString i)) H
section
variable {X : Cx} {o e : Expr} {to te : TE}
theorem pe_joinS {apos pos : Pos} (ho : PE X o to) (he : PE X e te) (hs : starEach [e] X.env = [(false, eval e X.env)] := by rfl) (hbase : attributeBase o "join" X.env (eval o X.env) = eval o X.env := by rfl) (hline : (apos.endLine == pos.line) = true := by rfl) :
    PE X (.Call (.Attribute o "join" apos) [e] [] pos) (tM1 (rJoin X.K) to te) := pe_join ho he hs hbase hline
theorem op_addS : OpR X (binaryOp .Add) rAddS := op_add_str
theorem call_strI : CallR X (.type "str") rStrI := call_str_int
end
section
variable {P : Program} {w : World} {K : PySem.W.Frag} {mg : Str → Option Value} {base : Heap} {C : Addr}
abbrev s_rings_text : Stmt := top 20
theorem sc_rings_text : FnScope ["rings", "ring", "place"] ["rings"] (defScope s_rings_text) := ⟨rfl, rfl, rfl, by decide +kernel, rfl, by decide +kernel, by decide +kernel⟩

def spText (K : PySem.W.Frag) : Sp := fun vs H Q _ => ∃ (a : Addr) (as : List Addr) (rs : List (List Nat)), vs = [.ref a] ∧ SqL K H a (as.map V.ref) ∧ Rg H as rs ∧ (∀ x ∈ rs.flatten, x < 1000) ∧ rs.flatten.length ≤ 1000 ∧ rs.length ≤ 1000 ∧
  ∀ H' : Hp, Same H H' → Q (.str (txA rs)) H'
theorem ok_rings_text {f : Addr} {fd : FuncData} (F : Fun K "rings_text" "rings_text" s_rings_text f fd) (T : Blt mg) (str : mg "str" = none) : FnOk P w K mg base CX0 1 f fd ["rings"] (spText K) := by
  refine F.ok sc_rings_text (fun vs H Q E h => ?_) (fun cdv A outer s H vs Q E hr h => ?_)
  · obtain ⟨a, as, rs, rfl, _⟩ := h; rfl
  · obtain ⟨a, as, rs, rfl, hS, hg, hx, hl, hn, q⟩ := h
    refine ⟨_, (pss_one (ps_ret (pe_orT (pe_joinS pe_str (pe_lc (own := [("ring", 1)]) (tt := tYes) (te := tOp rAddS (tOp rAddS (tC (.str "(")) (tM1 (rJoin K) (tC (.str ",")) (tLc (iList K (tVar 1)) (gName 2) tYes (tCB rStrI (tCons (tVar 2) tNil)) [2]))) (tC (.str ")"))) rfl sc_rings_text.nd (pi_list (pv 0)) (blkOk_by (N := ["rings", "ring", "place"]) (sc := defScope s_rings_text) (by decide +kernel)) (fun _ _ _ _ _ => (pg_name (i := 1) sc_rings_text.nd rfl (.inl rfl))) (fun _ _ _ _ _ => pts_nil) (fun _ _ _ _ _ => by exact (pe_op op_addS (pe_op op_addS pe_str (pe_joinS pe_str (pe_lc (own := [("place", 2)]) (tt := tYes) rfl sc_rings_text.nd (pi_list (pv 1)) (by exact (blkOk_by (N := ["rings", "ring", "place"]) (by rfl))) (fun _ _ _ _ _ => (pg_name (i := 2) sc_rings_text.nd rfl (.inl rfl))) (fun _ _ _ _ _ => pts_nil) (fun _ _ _ _ _ => by exact (pe_callTy call_strI (by rfl) str (by decide +kernel) (pa_cons (pv 2) pa_nil)))))) pe_str)))) (pe_one pe_str)))), ?_⟩
    refine ⟨⟨_, rfl⟩, _, rfl, a, rfl, ⟨_, hS⟩, fun D nD => ?_⟩
    refine lc_list (K := K) (a := a) (xs := as.map V.ref) (fun i H1 => Same H H1 ∧ H1 D = some (.lst (((rs.take i).map txR).map V.str))) ⟨same_upd nD, upd_same⟩ (fun i H1 _ ⟨s1, _⟩ => s1.seq hS) ?_ ?_
    · rintro i y H1 hi ⟨s1, hD⟩
      obtain ⟨b, hb, rfl⟩ : ∃ b, as[i]? = some b ∧ y = V.ref b := by
        rw [List.getElem?_map] at hi
        cases e : as[i]? with
        | none => rw [e] at hi; cases hi
        | some b => rw [e] at hi; exact ⟨b, rfl, (Option.some.inj hi).symm⟩
      have hil : i < rs.length := by rw [← hg.len]; exact (List.getElem?_eq_some_iff.mp hb).1
      obtain ⟨r, hr'⟩ : ∃ r, rs[i]? = some r := ⟨_, List.getElem?_eq_getElem hil⟩
      have hbr := hg.at_ i b r hb hr'
      have hrx : ∀ x ∈ r, x < 1000 := fun x hx' => hx x (List.mem_flatten.mpr ⟨r, List.mem_of_getElem? hr', hx'⟩)
      have hrl : r.length ≤ 1000 := by
        have := mem_len (List.mem_of_getElem? hr')
        omega
      refine ⟨rfl, yesT ?_⟩
      refine ⟨⟨_, rfl⟩, _, rfl, b, rfl, ⟨_, SqL.of (s1 _ _ hbr)⟩, fun D2 nD2 => ?_⟩
      refine lc_list (K := K) (a := b) (xs := r.map nv) (fun j H2 => Same H1 H2 ∧ H2 D2 = some (.lst (((r.take j).map txN).map V.str))) ⟨same_upd nD2, upd_same⟩ (fun j H2 _ ⟨s2, _⟩ => SqL.of (s2 _ _ (s1 _ _ hbr))) ?_ ?_
      · rintro j y H2 hj ⟨s2, hD2⟩
        obtain ⟨x, hx', rfl⟩ := of_nv_get hj
        refine ⟨rfl, yesT ?_⟩
        refine ⟨_, rfl, (x : Int), rfl, ?_, _, hD2, small64 (by rw [List.length_map, List.length_map, List.length_take]; omega), mutS s2 nD2, ?_⟩
        · have := hrx x (List.mem_of_getElem? hx')
          rw [Int.natAbs_natCast]
          exact Nat.lt_of_le_of_lt (Nat.log2_le_self x) (by omega)
        · rw [upd_same, List.take_add_one, hx', List.map_append, List.map_append]
          rfl
      · rintro H2 ⟨s2, hD2⟩
        rw [List.length_map, List.take_length] at hD2
        have b1 := join_ring hrx
        have b2 := txR_len hrx
        have b3 : (Txt.join "," (r.map txN)).length ≤ r.length * 4 + r.length := by
          have a := join_le "," (r.map txN)
          rw [List.length_map, comma_len] at a
          omega
        refine ⟨",", D2, r.map txN, rfl, rfl, .inl (SqL.of hD2), by rw [List.length_map, comma_len]; omega, "(", _, rfl, rfl, by rw [open_len, sizeLine_eq]; omega, _, ")", rfl, rfl, by rw [app_len, open_len, close_len, sizeLine_eq]; omega,
          _, s2 _ _ hD, small64 (by rw [List.length_map, List.length_map, List.length_take]; omega), mutS (s1.trans s2) nD, ?_⟩
        rw [upd_same, List.take_add_one, hr', List.map_append, List.map_append]
        rfl
    · rintro H1 ⟨s1, hD⟩
      rw [List.length_map, hg.len, List.take_length] at hD
      have b1 := txJ_sum hx
      have b2 : (txJ rs).length ≤ 10000 := by
        have a := join_le "" (rs.map txR)
        rw [List.length_map, none_len] at a
        show (Txt.join "" (rs.map txR)).length ≤ _
        omega
      refine ⟨"", D, rs.map txR, rfl, rfl, .inl (SqL.of hD), by rw [List.length_map, none_len]; omega, ?_⟩
      refine ⟨((txJ rs).length : Int) != 0, ⟨by rw [sizeLine_eq]; show (txJ rs).length ≤ _; omega, rfl⟩, ?_⟩
      by_cases c : (txJ rs).length = 0
      · have e : (((txJ rs).length : Int) != 0) = false := by rw [c]; rfl
        rw [e]
        refine iteF ?_
        have := q H1 s1
        unfold txA at this
        rw [if_pos c] at this
        exact this
      · have e : (((txJ rs).length : Int) != 0) = true := by rw [bne_iff_ne]; omega
        rw [e]
        refine iteT ?_
        have := q H1 s1
        unfold txA at this
        rw [if_neg c] at this
        exact this
end
structure BltC (K : PySem.W.Frag) (mg : Str → Option Value) (C : Addr) : Prop extends Blt mg where
  cl : Cls K C
/-! ### lists of ints and of bools compared -/
theorem dpI {K : PySem.W.Frag} {H : Hp} {a : Addr} {l : List Nat} (h : SqL K H a (l.map nv)) : Dp K H (.ref a) (.list (l.map fun (x : Nat) => PyData.int x)) := by
  refine .lst h ?_
  clear h
  induction l with
  | nil => exact .nil
  | cons x l ih => exact .cons (.int x) ih
theorem canI (l : List Nat) : PyData.canLayAll0 (l.map fun (x : Nat) => PyData.int x) = true := by
  induction l with
  | nil => rfl
  | cons x l ih =>
    rw [List.map_cons, PyData.canLayAll0, ih]
    rfl
theorem depI (l : List Nat) : PyData.depthAll (l.map fun (x : Nat) => PyData.int x) = 0 := by
  induction l with
  | nil => rfl
  | cons x l ih =>
    rw [List.map_cons, PyData.depthAll, ih]
    rfl
theorem shI (l : List Nat) : SeqAt.shaped (.list (l.map fun (x : Nat) => PyData.int x)) = true := by
  unfold SeqAt.shaped
  rw [PyData.canLay0, canI, PyData.depth, depI]
  rfl
theorem eqI (l m : List Nat) : PyData.eqv (.list (l.map fun (x : Nat) => PyData.int x)) (.list (m.map fun (x : Nat) => PyData.int x)) = decide (l = m) := by
  rw [PyData.eqv]
  induction l generalizing m with
  | nil =>
    cases m with
    | nil => rfl
    | cons y m => rfl
  | cons x l ih =>
    cases m with
    | nil => rfl
    | cons y m =>
      rw [List.map_cons, List.map_cons, PyData.eqvAll, ih m, PyData.eqv]
      by_cases c : x = y
      · subst c
        rw [beq_self_eq_true, Bool.true_and]
        simp
      · have : ((x : Int) == (y : Int)) = false := by rw [beq_eq_false_iff_ne]; omega
        rw [this, Bool.false_and]
        simp [c]
/-- the wire's class as the law asks of it -/
structure WTop (K : PySem.W.Frag) (mg : Str → Option Value) (C : Addr) : Prop extends BltC K mg C where
  g_Wire : mg "Wire" = some (.ref C)
  cla : PySem.W.findIn K (.ref C) "__class__" = some (some (.builtin "object.__class__"))
  hget : PySem.W.specialIn K (.builtin "object.__class__") "__get__" = some (some (.builtin "getset_descriptor.__get__"))
  htk : PySem.W.takesIn K (.builtin "object.__class__") = some true
  hmro : PySem.W.mroIn K C (.type "object") = some true
theorem kit_self {K : PySem.W.Frag} {v : Value} : PySem.W.kitOne K v v = some true := by
  unfold PySem.W.kitOne
  rw [if_pos (beq_self_eq_true _)]
section
variable {P : Program} {w : World} {K : PySem.W.Frag} {mg : Str → Option Value} {base : Heap} {C : Addr}
/-! ### Wire.images, __eq__, __str__ -/
abbrev s_Wire_images : Stmt := inClass (top 16) 2
theorem sc_Wire_images : FnScope ["self"] ["self"] (defScope s_Wire_images) := ⟨rfl, rfl, rfl, by decide +kernel, rfl, by decide +kernel, by decide +kernel⟩

def spImages (C : Addr) : Sp := fun vs H Q _ => ∃ (a : Addr) (im : List Nat), vs = [.ref a] ∧ WireAt C H a im ∧ im.length ≤ 1000 ∧ ∀ (o : Addr) (H' : Hp), Same H H' → H o = none → H' o = some (.lst (im.map nv)) → Q (.ref o) H'
theorem ok_Wire_images {f : Addr} {fd : FuncData} (F : Fun K "images" "Wire.images" s_Wire_images f fd) (T : Blt mg) (W : WTxt K C) : FnOk P w K mg base CX0 1 f fd ["self"] (spImages C) := by
  refine F.ok sc_Wire_images (fun vs H Q E h => ?_) (fun cdv A outer s H vs Q E hr h => ?_)
  · obtain ⟨a, im, rfl, _⟩ := h; rfl
  · obtain ⟨a, im, rfl, ⟨l, ⟨dx, h1⟩, h2⟩, hn, q⟩ := h
    refine ⟨_, (pss_one (ps_ret (pe_callTy call_list_of (by rfl) T.list PyProof.Rows.boot_list (pa_cons (pe_fld (pv 0) rfl) pa_nil)))), ?_⟩
    refine ⟨_, rfl, a, C, dx, _, _, rfl, h1, W.cl, W.nI, wF_im _ _, ?_⟩
    exact ⟨l, _, rfl, .inl (SqL.of h2), fun o no => q o _ (same_upd no) no upd_same⟩
abbrev s_Wire_eq : Stmt := inClass (top 16) 13
theorem sc_Wire_eq : FnScope ["self", "other"] ["self", "other"] (defScope s_Wire_eq) := ⟨rfl, rfl, rfl, by decide +kernel, rfl, by decide +kernel, by decide +kernel⟩

def spEq (K : PySem.W.Frag) (C : Addr) : Sp := fun vs H Q _ => ∃ (a : Addr) (im : List Nat) (y : V), vs = [.ref a, y] ∧ WireAt C H a im ∧
  ((∃ (b : Addr) (jm : List Nat), y = .ref b ∧ WireAt C H b jm ∧ ∀ H' : Hp, Same H H' → Q (.bl (decide (im = jm))) H') ∨ ∃ t : Value, TyX K H y t ∧ PySem.W.kitOne K t (.ref C) = some false ∧ ∀ H' : Hp, Same H H' → Q (.bl false) H')
theorem ok_Wire_eq {f : Addr} {fd : FuncData} (F : Fun K "__eq__" "Wire.__eq__" s_Wire_eq f fd) (T : WTop K mg C) (W : WTxt K C) : FnOk P w K mg base CX0 1 f fd ["self", "other"] (spEq K C) := by
  refine F.ok sc_Wire_eq (fun vs H Q E h => ?_) (fun cdv A outer s H vs Q E hr h => ?_)
  · obtain ⟨a, im, y, rfl, _⟩ := h; rfl
  · obtain ⟨a, im, y, rfl, ⟨l, ⟨dx, h1⟩, h2⟩, h⟩ := h
    have hu2 : (A.deeper (envOfC "Wire.__eq__" (defScope s_Wire_eq) s.heap.objs.size f cdv)).units + 64 < cLine := by have := hr.un; omega
    refine ⟨_, (pss_one (ps_ret (pe_and (pe_callB call_isi (by rfl) T.isinstance (by decide +kernel) (pa_cons (pv 1) (pa_cons (pe_glob (v := .ref _) rfl T.g_Wire rfl) pa_nil))) (pe_one (pe_cmpR (op_eqD hu2) (pe_fld (pv 0) rfl) (pe_fld (pv 1) rfl) (nomark _)))))), ?_⟩
    rcases h with ⟨b, jm, rfl, ⟨l', ⟨dx', h1'⟩, h2'⟩, q⟩ | ⟨t, ty, kt, q⟩
    · refine ⟨_, rfl, .ref b, .ref C, .ref C, .ref C, true, rfl, .own C, .base (.ins h1' T.cl T.cla T.hget T.htk T.hmro), kit_self, true, rfl, iteT ?_⟩
      refine ⟨_, rfl, a, C, dx, _, _, rfl, h1, W.cl, W.nI, wF_im _ _, _, rfl, b, C, dx', _, _, rfl, h1', W.cl, W.nI, wF_im _ _, _, _, dpI (SqL.of h2), dpI (SqL.of h2'), shI _, shI _, ?_⟩
      rw [eqI]
      exact q H (Same.refl _)
    · exact ⟨_, rfl, y, .ref C, t, .ref C, false, rfl, .own C, ty, kt, false, rfl, iteF (q H (Same.refl _))⟩
abbrev s_Wire_str : Stmt := inClass (top 16) 14
theorem sc_Wire_str : FnScope ["self"] ["self"] (defScope s_Wire_str) := ⟨rfl, rfl, rfl, by decide +kernel, rfl, by decide +kernel, by decide +kernel⟩

def txW (im : List Nat) : Str := ((Str.empty ++ txN im.length) ++ (" " : Str)) ++ txA (rings (ap im) im.length)
def spStr (C : Addr) : Sp := fun vs H Q _ => ∃ (a : Addr) (im : List Nat), vs = [.ref a] ∧ WireAt C H a im ∧ IsPerm im ∧ im.length ≤ 60 ∧ ∀ H' : Hp, Same H H' → Q (.str (txW im)) H'
theorem ok_Wire_str {f : Addr} {fd : FuncData} (F : Fun K "__str__" "Wire.__str__" s_Wire_str f fd) (T : BltC K mg C) (W : WTxt K C) (D_Wire_rings : MethOk P w K mg base CX0 2 C "rings" ["self"] [] (spWRings C)) (D_rings_text : DefOk P w K mg base CX0 1 "rings_text" ["rings"] [] (spText K)) :
    FnOk P w K mg base CX0 3 f fd ["self"] (spStr C) := by
  refine F.ok sc_Wire_str (fun vs H Q E h => ?_) (fun cdv A outer s H vs Q E hr h => ?_)
  · obtain ⟨a, im, rfl, _⟩ := h; rfl
  · obtain ⟨a, im, rfl, hW, hI, hn, q⟩ := h
    have P := hI.perm
    obtain ⟨l, ⟨dx, h1⟩, h2⟩ := id hW
    refine ⟨_, (pss_one (ps_ret (pe_joined (.cons (pe_fmt (pe_fld (pv 0) rfl)) (.cons pe_str (.cons (pe_fmt (pe_d D_rings_text hr pass0 (pa_cons (pe_m0 D_Wire_rings T.cl hr pass0 (pv 0)) pa_nil))) .nil)))))), ?_⟩
    have l1 := txN_len (n := im.length) (by omega)
    have xl : ∀ x ∈ (rings (ap im) im.length).flatten, x < 1000 := fun x hx => Nat.lt_of_lt_of_le (rings_lt P hx) (by omega)
    have tot := rings_total P
    have rl := ringsTo_len (ap im) im.length im.length
    have l2 : (txA (rings (ap im) im.length)).length ≤ 10000 := txA_len xl (by omega) (by show (ringsTo _ _ _).length ≤ _; omega)
    have l0 : Str.empty.length = 0 := rfl
    have l3 : ((" " : Str)).length = 1 := by decide +kernel
    refine ⟨_, rfl, a, C, dx, _, _, rfl, h1, W.cl, W.nS, wF_size _ _, .inr ⟨(im.length : Int), rfl, ?_, _, rfl, ?_, _, rfl, ?_, ?_⟩⟩
    · rw [Int.natAbs_natCast]
      exact Nat.lt_of_le_of_lt (Nat.log2_le_self _) (by omega)
    · rw [app_len, l0, sizeLine_eq]
      have : (Str.ofString (toString (im.length : Int))).length ≤ 4 := l1
      omega
    · rw [app_len, app_len, l0, l3, sizeLine_eq]
      have : (Str.ofString (toString (im.length : Int))).length ≤ 4 := l1
      omega
    refine ⟨_, rfl, a, dx, _, rfl, h1, wF_no _ _ (by decide +kernel) (by decide +kernel), a, im, rfl, hW, hI, hn, fun o as H1 s1 no nas hoa hnd ho hg => ?_⟩
    refine ⟨o, as, _, rfl, SqL.of ho, hg, xl, by omega, by show (ringsTo _ _ _).length ≤ _; omega, fun H2 s2 => .inl ⟨_, rfl, by rw [sizeLine_eq]; omega, _, rfl, ?_, q H2 (s1.trans s2)⟩⟩
    rw [app_len, app_len, app_len, l0, l3, sizeLine_eq]
    have : (Str.ofString (toString (im.length : Int))).length ≤ 4 := l1
    omega
end
/-! ### moves_of with a ring that is none -/
def InSz (z : V) (x : Int) : Prop := z = .non ∨ ∃ n : Nat, z = nv n ∧ x < n
def RgI (H : Hp) (as : List Addr) (rs : List (List Int)) : Prop := as.length = rs.length ∧ ∀ (i : Nat) (b : Addr) (r : List Int), as[i]? = some b → rs[i]? = some r → H b = some (.lst (r.map V.int))
/-- the first ring that is none is number j -/
structure BadAt (z : V) (rs : List (List Int)) (j : Nat) : Prop where
  sz : z = .non ∨ ∃ n : Nat, z = nv n
  ne : ∀ (i : Nat) (r : List Int), i < j → rs[i]? = some r → r ≠ []
  nd : (rs.take j).flatten.Nodup
  ok : ∀ x ∈ (rs.take j).flatten, 0 ≤ x ∧ InSz z x
  few : rs.flatten.length ≤ 1000
  bad : ∃ b, rs[j]? = some b ∧ (b = [] ∨ ∃ (q : List Int) (x : Int) (r : List Int), b = q ++ x :: r ∧ ((rs.take j).flatten ++ q).Nodup ∧ (∀ y ∈ q, 0 ≤ y ∧ InSz z y) ∧ (x < 0 ∨ x ∈ (rs.take j).flatten ++ q ∨ ¬ InSz z x))
/-- the dict has just these keys -/
structure Keys (kv : List (Key × V)) (l : List Int) : Prop where
  iff : ∀ y : Int, valV kv (Sum.inl y) ≠ none ↔ y ∈ l
  len : kv.length ≤ l.length
theorem Keys.nil : Keys [] [] := ⟨fun y => ⟨fun h => absurd rfl h, fun h => by cases h⟩, Nat.le_refl _⟩
theorem Keys.put {kv : List (Key × V)} {l : List Int} (h : Keys kv l) (x : Int) (v : V) : Keys (putK kv (Sum.inl x) v) (l ++ [x]) := by
  refine ⟨fun y => ?_, ?_⟩
  · rw [valV_put]
    by_cases c : (Sum.inl y : Key) = Sum.inl x
    · rw [if_pos c]
      have e : y = x := Sum.inl.inj c
      exact ⟨fun _ => by rw [e]; simp, fun _ z => by cases z⟩
    · rw [if_neg c]
      have e : ¬ y = x := fun z => c (by rw [z])
      rw [h.iff y]
      simp [e]
  · have := length_putK kv (Sum.inl x) v
    have := h.len
    rw [List.length_append, List.length_singleton]
    omega
theorem take_flat {rs : List (List Int)} {i : Nat} {r : List Int} (h : rs[i]? = some r) : (rs.take (i + 1)).flatten = (rs.take i).flatten ++ r := by
  rw [List.take_add_one, h]
  simp
theorem flat_len_le (rs : List (List Int)) (i : Nat) : (rs.take i).flatten.length ≤ rs.flatten.length := by
  have e : rs.flatten = (rs.take i).flatten ++ (rs.drop i).flatten := by rw [← List.flatten_append, List.take_append_drop]
  rw [e, List.length_append]
  omega
theorem ring_len_le {rs : List (List Int)} {i : Nat} {r : List Int} (h : rs[i]? = some r) : (rs.take i).flatten.length + r.length ≤ rs.flatten.length := by
  have := flat_len_le rs (i + 1)
  rw [take_flat h, List.length_append] at this
  exact this
section
variable {P : Program} {w : World} {K : PySem.W.Frag} {mg : Str → Option Value} {base : Heap} {CR : Addr}
def spMovesX (K : PySem.W.Frag) (CR : Addr) : Sp := fun vs H Q E => ∃ (a : Addr) (z : V) (as : List Addr) (rs : List (List Int)) (j : Nat), vs = [.ref a, z] ∧ SqL K H a (as.map V.ref) ∧ RgI H as rs ∧ BadAt z rs j ∧
  ∀ (d : Addr) (H' : Hp), Same H H' → H' d = none → E (.ref CR) (some d) (upd H' d (.xd [("index", nv j)]))
theorem ok_moves_ofX {f : Addr} {fd : FuncData} (F : FunD K "moves_of" "moves_of" (defArgs s_moves_of) (defBody s_moves_of) (defScope s_moves_of) [.non] [] f fd) (T : Blt mg) (D_NoRing : ErrOk P w K mg base CX0 1 CR "NoRing" "index" "index") :
    FnOk P w K mg base (L2.CX P w) 3 f fd ["rings", "size"] (spMovesX K CR) := by
  refine F.ok sc_moves_of (fun vs H Q E h => ?_) (fun cdv A outer s H vs Q E hr h => ?_)
  · obtain ⟨a, z, as, rs, j, rfl, _⟩ := h; rfl
  · obtain ⟨a, z, as, rs, j0, rfl, hS, hg, hb0, q⟩ := h
    have hu := hu_of hr
    obtain ⟨bad, hbad, hcase⟩ := hb0.bad
    have hj0 : j0 < rs.length := (List.getElem?_eq_some_iff.mp hbad).1
    refine ⟨_, (pss_cons (ps_set (i := 2) sc_moves_of.nd rfl (.inl rfl) pe_dnewK)
    (pss_cons (ps_for (passes_of rfl) rfl (pi_enum (by rfl) T.enumerate (pa_cons (pv 0) pa_nil)) (pg_tup rfl (pgs_cons (pg_name (i := 3) sc_moves_of.nd rfl (.inl rfl)) (pgs_cons (pg_name (i := 4) sc_moves_of.nd rfl (.inl rfl)) pgs_nil))) (pss_cons (ps_if (pt_not (pt_truth (pv 4) (by intro _; rfl))) (pss_one (ps_raise rfl (takes_of rfl rfl rfl rfl) (pmk_err D_NoRing hr pass0 (pv 3)))) pss_nil)
    (pss_one (ps_for (passes_of rfl) rfl (pi_zip (by rfl) T.zip (pa_cons (pv 4) (pa_cons (pe_op op_cat (pe_slice sl_list (pv 4) (po_some pe_int) po_none) (pe_slice sl_list (pv 4) po_none (po_some pe_int))) pa_nil))) (pg_tup rfl (pgs_cons (pg_name (i := 5) sc_moves_of.nd rfl (.inl rfl)) (pgs_cons (pg_name (i := 6) sc_moves_of.nd rfl (.inl rfl)) pgs_nil))) (pss_cons (ps_if (PW.pt (pw_or (pt_cmpR op_lt (pv 5) pe_int (nomark _)) (pw_or (pt_cmp (pc_din hu (pv 5) (pv 2))) (pw_or1 (PW.pt (pw_and (pt_cmpR op_notN (pv 1) pe_non (nomark _)) (pw_and1 (pt_cmpR op_ge (pv 5) (pv 1) (nomark _))))))))) (pss_one (ps_raise rfl (takes_of rfl rfl rfl rfl) (pmk_err D_NoRing hr pass0 (pv 3)))) pss_nil)
    (pss_one (ps_dput hu (pv 2) (pv 5) (pv 6) rfl)))))))
    (pss_one (ps_ret (pv 2))))), ?_⟩
    intro d nd
    have s1 : Same H (upd H d (.dK [])) := same_upd nd
    refine ⟨.ref a, rfl, a, _, rfl, s1.seq hS, ?_⟩
    refine for_it (walk_enum (K := K) (a := a) (xs := as.map V.ref)) (fun i σ H1 => ∃ (v3 v4 v5 v6 : Option V) (kv : List (Key × V)), i ≤ j0 ∧ σ = [some (.ref a), some z, some (.ref d), v3, v4, v5, v6] ∧ Same H H1 ∧ H1 d = some (.dK kv) ∧ Keys kv (rs.take i).flatten)
      ⟨none, none, none, none, [], Nat.zero_le _, rfl, s1, upd_same, Keys.nil⟩ (fun i σ H1 _ ⟨_, _, _, _, _, _, _, s2, _⟩ => s2.seq hS) ?_ ?_
    · rintro i y σ H1 H2 hi ⟨v3, v4, v5, v6, kv, hij, rfl, s2, hd, hk⟩ ⟨T1, x1, x2, rfl, nT, rfl, f1, f2⟩
      have e1 : x1 = V.int (i : Nat) := (Option.some.inj f1).symm
      subst e1
      rw [List.length_map] at hi
      obtain ⟨b, hb⟩ : ∃ b, as[i]? = some b := ⟨as[i], List.getElem?_eq_getElem hi⟩
      have e2 : x2 = V.ref b := by
        have f3 : (as.map V.ref)[i]? = some x2 := f2
        rw [List.getElem?_map, hb] at f3
        exact (Option.some.inj f3).symm
      subst e2
      obtain ⟨r, hr'⟩ : ∃ r, rs[i]? = some r := ⟨rs[i]'(by rw [← hg.1]; exact hi), List.getElem?_eq_getElem _⟩
      have hbr := hg.2 i b r hb hr'
      have dT : d ≠ T1 := ne_of_none hd nT
      have s3 : Same H (upd H1 T1 (.tup [V.int (i : Nat), V.ref b])) := mutS s2 (s2.free nT)
      refine ⟨T1, _, rfl, SqT.of upd_same, rfl, _, _, rfl, _, _, rfl, rfl, ?_⟩
      have hB : SqL K (upd H1 T1 (.tup [V.int (i : Nat), V.ref b])) b (r.map V.int) := SqL.of (s3 _ _ hbr)
      have rlen := ring_len_le hr'
      have few := hb0.few
      by_cases re : r = []
      · -- an empty ring: the one that is none
        have ij : i = j0 := by
          by_cases c : i < j0
          · exact absurd re (hb0.ne i r c hr')
          · omega
        subst ij
        refine ⟨_, rfl, false, .inl ⟨_, hB, by rw [re]; rfl⟩, iteT ?_⟩
        exact ⟨_, rfl, fun d' nd' => q d' _ s3 nd'⟩
      · refine ⟨_, rfl, true, .inl ⟨_, hB, by cases r with | nil => exact absurd rfl re | cons x r => rfl⟩, iteF ?_⟩
        -- how far the ring is good
        obtain ⟨lim, hlim, hgood, hstop⟩ : ∃ lim, lim ≤ r.length ∧ (∀ (jj : Nat) (x : Int), jj < lim → r[jj]? = some x → 0 ≤ x ∧ InSz z x ∧ x ∉ (rs.take i).flatten ++ r.take jj) ∧
            ((lim = r.length ∧ i < j0) ∨ (i = j0 ∧ ∃ x, r[lim]? = some x ∧ (x < 0 ∨ x ∈ (rs.take i).flatten ++ r.take lim ∨ ¬ InSz z x))) := by
          by_cases c : i < j0
          · refine ⟨r.length, Nat.le_refl _, fun jj x hjj hx => ?_, .inl ⟨rfl, c⟩⟩
            obtain ⟨t, ht⟩ : ∃ t, (rs.take j0).flatten = (rs.take (i + 1)).flatten ++ t := by
              refine ⟨((rs.take j0).drop (i + 1)).flatten, ?_⟩
              have e : (rs.take j0).take (i + 1) = rs.take (i + 1) := by rw [List.take_take]; congr 1; omega
              rw [← e, ← List.flatten_append, List.take_append_drop]
            have hm : x ∈ (rs.take j0).flatten := by
              rw [ht, take_flat hr']
              exact List.mem_append_left _ (List.mem_append_right _ (List.mem_of_getElem? hx))
            refine ⟨(hb0.ok x hm).1, (hb0.ok x hm).2, ?_⟩
            have nd' := hb0.nd
            rw [ht, take_flat hr'] at nd'
            have nd2 := (List.nodup_append.mp nd').1
            have er : r = r.take jj ++ x :: r.drop (jj + 1) := by
              obtain ⟨hlt, ex⟩ := List.getElem?_eq_some_iff.mp hx
              rw [← ex, ← List.drop_eq_getElem_cons hlt, List.take_append_drop]
            rw [er, ← List.append_assoc] at nd2
            intro hin
            exact (List.nodup_append.mp nd2).2.2 _ hin _ List.mem_cons_self rfl
          · have ij : i = j0 := by omega
            subst ij
            have eb : r = bad := Option.some.inj (hr'.symm.trans hbad)
            rcases hcase with h | ⟨q', x, t, h, nd', okq, why⟩
            · exact absurd (eb.trans h) re
            · have er : r = q' ++ x :: t := eb.trans h
              refine ⟨q'.length, by rw [er, List.length_append]; omega, fun jj y hjj hy => ?_, .inr ⟨rfl, x, by rw [er]; simp, ?_⟩⟩
              · rw [er, List.getElem?_append_left hjj] at hy
                have hq := okq y (List.mem_of_getElem? hy)
                refine ⟨hq.1, hq.2, ?_⟩
                have tk : r.take jj = q'.take jj := by rw [er, List.take_append_of_le_length (by omega)]
                rw [tk]
                have eq' : q' = q'.take jj ++ y :: q'.drop (jj + 1) := by
                  obtain ⟨hlt, ex⟩ := List.getElem?_eq_some_iff.mp hy
                  rw [← ex, ← List.drop_eq_getElem_cons hlt, List.take_append_drop]
                rw [eq', ← List.append_assoc] at nd'
                intro hin
                exact (List.nodup_append.mp nd').2.2 _ hin _ List.mem_cons_self rfl
              · have tk : r.take q'.length = q' := by rw [er]; simp
                rw [tk]
                exact why
        -- zip(ring, ring[1:] + ring[:1])
        refine ⟨_, rfl, _, rfl, 1, rfl, b, _, rfl, hB, fun p1 np1 => ⟨_, rfl, 1, rfl, b, _, rfl, (same_upd np1).seq hB, fun p2 np2 => ?_⟩⟩
        rw [cutV_from1, cutV_to1]
        rw [cutV_from1] at np2
        have n12 : p1 ≠ p2 := ne_of_none (upd_same (H := upd H1 T1 _)) np2
        refine ⟨p1, p2, _, _, rfl, rfl, by rw [upd_ne n12]; exact upd_same, upd_same, Nat.le_trans (show _ ≤ 2000 from ?_) (by decide), fun p3 np3 => ?_⟩
        · rw [List.length_drop, List.length_take, List.length_map]
          omega
        have sA : Same (upd H1 T1 (.tup [V.int (i : Nat), V.ref b])) (upd (upd (upd (upd H1 T1 (.tup [V.int (i : Nat), V.ref b])) p1 (.lst ((r.map V.int).drop 1))) p2 (.lst ((r.map V.int).take 1))) p3 (.lst ((r.map V.int).drop 1 ++ (r.map V.int).take 1))) :=
          ((same_upd np1).trans (same_upd np2)).trans (same_upd np3)
        have hd4 := sA _ _ (show (upd H1 T1 (.tup [V.int (i : Nat), V.ref b])) d = some (.dK kv) by rw [upd_ne dT]; exact hd)
        have h34 : (upd (upd (upd (upd H1 T1 (.tup [V.int (i : Nat), V.ref b])) p1 (.lst ((r.map V.int).drop 1))) p2 (.lst ((r.map V.int).take 1))) p3 (.lst ((r.map V.int).drop 1 ++ (r.map V.int).take 1))) p3 = some (.lst ((r.map V.int).drop 1 ++ (r.map V.int).take 1)) := upd_same
        have hB4 := sA.seq hB
        have s4 := s3.trans sA
        generalize upd (upd (upd (upd H1 T1 (.tup [V.int (i : Nat), V.ref b])) p1 (.lst ((r.map V.int).drop 1))) p2 (.lst ((r.map V.int).take 1))) p3 (.lst ((r.map V.int).drop 1 ++ (r.map V.int).take 1)) = H5 at hd4 h34 hB4 s4 ⊢
        have wl : ((r.map V.int).drop 1 ++ (r.map V.int).take 1).length = r.length := by
          rw [List.length_append, List.length_drop, List.length_take, List.length_map]
          omega
        refine ⟨b, p3, _, _, rfl, hB4, SqL.of h34, ?_⟩
        have bd4 : H5 b = some (.lst (r.map V.int)) := s4 _ _ hbr
        refine for_it (walk_zip (K := K) (a := b) (b := p3) (xs := r.map V.int) (ys := (r.map V.int).drop 1 ++ (r.map V.int).take 1) (n := r.length) (by rw [wl, List.length_map]; omega))
          (fun jj σ H3 => ∃ (v5 v6 : Option V) (kv : List (Key × V)), jj ≤ lim ∧ σ = [some (.ref a), some z, some (.ref d), some (V.int (i : Nat)), some (.ref b), v5, v6] ∧ Same H H3 ∧ H3 b = some (.lst (r.map V.int)) ∧ H3 p3 = some (.lst ((r.map V.int).drop 1 ++ (r.map V.int).take 1)) ∧ H3 d = some (.dK kv) ∧ Keys kv ((rs.take i).flatten ++ r.take jj))
          ⟨v5, v6, kv, Nat.zero_le _, rfl, s4, bd4, h34, hd4, by rw [List.take_zero, List.append_nil]; exact hk⟩ (fun jj σ H3 _ ⟨_, _, _, _, _, _, h3, h4, _⟩ => ⟨SqL.of h3, SqL.of h4⟩) ?_ ?_
        · rintro jj y σ H3 H4 hjj ⟨v5, v6, kv, hl, rfl, s5, hb5, h5, hd5, hk5⟩ ⟨T2, x1, x2, rfl, nT2, rfl, g1, g2⟩
          obtain ⟨x, hx, rfl⟩ := of_int_get g1
          have dT2 : d ≠ T2 := ne_of_none hd5 nT2
          have bT2 : b ≠ T2 := ne_of_none hb5 nT2
          have pT2 : p3 ≠ T2 := ne_of_none h5 nT2
          have hd6 : (upd H3 T2 (.tup [V.int x, x2])) d = some (.dK kv) := by rw [upd_ne dT2]; exact hd5
          have s6 : Same H (upd H3 T2 (.tup [V.int x, x2])) := mutS s5 (s5.free nT2)
          refine ⟨T2, _, rfl, SqT.of upd_same, rfl, _, _, rfl, _, _, rfl, rfl, ?_⟩
          by_cases good : jj < lim
          · obtain ⟨g0, gz, gn⟩ := hgood jj x good hx
            have hno : valV kv (Sum.inl x) = none := by
              cases e : valV kv (Sum.inl x) with
              | none => rfl
              | some v => exact absurd ((hk5.iff x).mp (by rw [e]; intro z; cases z)) gn
            refine ⟨_, rfl, _, _, rfl, rfl, _, rfl, decF (by omega) ?_⟩
            refine ⟨_, rfl, _, rfl, d, none, rfl, .inl ⟨_, _, .of hd6, rfl, hno.symm⟩, _, rfl, iteF ?_⟩
            have bd : b ≠ d := ne_of_none hbr nd
            have pd : p3 ≠ d := fun e => by rw [e, hd5] at h5; cases h5
            have fin : ∀ D : Ends, D.nx = (fun σ H3 => ∃ (v5 v6 : Option V) (kv : List (Key × V)), jj + 1 ≤ lim ∧ σ = [some (.ref a), some z, some (.ref d), some (V.int (i : Nat)), some (.ref b), v5, v6] ∧ Same H H3 ∧ H3 b = some (.lst (r.map V.int)) ∧ H3 p3 = some (.lst ((r.map V.int).drop 1 ++ (r.map V.int).take 1)) ∧ H3 d = some (.dK kv) ∧ Keys kv ((rs.take i).flatten ++ r.take (jj + 1))) →
                sDPut (tVar 2) (tVar 5) (tVar 6) D [some (.ref a), some z, some (.ref d), some (V.int (i : Nat)), some (.ref b), some (V.int x), some x2] (upd H3 T2 (.tup [V.int x, x2])) := fun D hD => by
              refine ⟨_, rfl, _, rfl, _, rfl, d, _, rfl, DPut.k (k := Sum.inl x) hd6 ?_, ?_⟩
              · have := hk5.len
                rw [List.length_append, List.length_take] at this
                exact small64 (by omega)
              · rw [hD]
                refine ⟨_, _, _, by omega, rfl, mutS s6 nd, by rw [upd_ne bd, upd_ne bT2]; exact hb5, by rw [upd_ne pd, upd_ne pT2]; exact h5, upd_same, ?_⟩
                rw [List.take_add_one, hx, ← List.append_assoc]
                exact hk5.put x x2
            rcases gz with rfl | ⟨n, rfl, hn⟩
            · exact ⟨_, rfl, rfl, _, rfl, iteF (iteF (fin _ rfl))⟩
            · exact ⟨_, rfl, rfl, _, rfl, iteT ⟨_, rfl, _, rfl, _, _, rfl, rfl, _, rfl, decF (by omega) (fin _ rfl)⟩⟩
          · have jl : jj = lim := by omega
            subst jl
            rcases hstop with ⟨e, _⟩ | ⟨ij, x', hx', why⟩
            · omega
            · have ex : x' = x := V.int.inj (by
                have h1 : (r.map V.int)[jj]? = some (V.int x') := by rw [List.getElem?_map, hx']; rfl
                have h2 : (r.map V.int)[jj]? = some (V.int x) := by rw [List.getElem?_map, hx]; rfl
                exact Option.some.inj (h1.symm.trans h2))
              subst ex
              subst ij
              by_cases neg : x' < 0
              · exact ⟨_, rfl, _, _, rfl, rfl, _, rfl, decT neg (iteT ⟨_, rfl, fun d' nd' => q d' _ s6 nd'⟩)⟩
              · refine ⟨_, rfl, _, _, rfl, rfl, _, rfl, decF neg ?_⟩
                by_cases mem : x' ∈ (rs.take i).flatten ++ r.take jj
                · obtain ⟨v, hv⟩ : ∃ v, valV kv (Sum.inl x') = some v := by
                    cases e : valV kv (Sum.inl x') with
                    | some v => exact ⟨v, rfl⟩
                    | none => exact absurd e ((hk5.iff x').mpr mem)
                  exact ⟨_, rfl, _, rfl, d, some v, rfl, .inl ⟨_, _, .of hd6, rfl, hv.symm⟩, _, rfl, iteT (iteT ⟨_, rfl, fun d' nd' => q d' _ s6 nd'⟩)⟩
                · have hno : valV kv (Sum.inl x') = none := by
                    cases e : valV kv (Sum.inl x') with
                    | none => rfl
                    | some v => exact absurd ((hk5.iff x').mp (by rw [e]; intro z; cases z)) mem
                  refine ⟨_, rfl, _, rfl, d, none, rfl, .inl ⟨_, _, .of hd6, rfl, hno.symm⟩, _, rfl, iteF ?_⟩
                  rcases hb0.sz with rfl | ⟨n, rfl⟩
                  · rcases why with h | h | h
                    · exact absurd h neg
                    · exact absurd h mem
                    · exact absurd (.inl rfl) h
                  · have nx : (n : Int) ≤ x' := by
                      rcases why with h | h | h
                      · exact absurd h neg
                      · exact absurd h mem
                      · apply Classical.byContradiction
                        intro hc
                        exact h (.inr ⟨n, rfl, by omega⟩)
                    exact ⟨_, rfl, rfl, _, rfl, iteT ⟨_, rfl, _, rfl, _, _, rfl, rfl, _, rfl, decT nx ⟨_, rfl, fun d' nd' => q d' _ s6 nd'⟩⟩⟩
        · rintro σ H3 ⟨v5, v6, kv, hl, rfl, s5, hb5, h5, hd5, hk5⟩
          have lr : lim = r.length := by omega
          rcases hstop with ⟨_, ij⟩ | ⟨_, x, hx, _⟩
          · refine ⟨_, _, v5, v6, kv, by omega, rfl, s5, hd5, ?_⟩
            rw [take_flat hr']
            rw [List.take_length] at hk5
            exact hk5
          · rw [lr, List.getElem?_eq_none (Nat.le_refl _)] at hx
            cases hx
    · rintro σ H1 ⟨v3, v4, v5, v6, kv, hij, rfl, s2, hd, hk⟩
      rw [List.length_map, hg.1] at hij
      omega
end
section
variable {P : Program} {w : World} {K : PySem.W.Frag} {mg : Str → Option Value} {base : Heap} {C CS CR : Addr}
theorem lk0 {f : Str} {v : V} : List.lookup f [(f, v)] = some v := by simp only [List.lookup, beq_self_eq_true]
/-! ### Wire(size, rings) refused -/
def spInitX (K : PySem.W.Frag) (C CS CR : Addr) : Sp := fun vs H Q E => ∃ (p dx a : Addr) (n : Int), vs = [.ref p, .int n, .ref a] ∧ H p = some (.ins C dx []) ∧
  ((n < 1 ∧ ∀ d : Addr, H d = none → E (.ref CS) (some d) (upd H d (.xd [("size", .int n)]))) ∨
    ∃ (m : Nat) (as : List Addr) (rs : List (List Int)) (j : Nat), n = m ∧ 1 ≤ m ∧ SqL K H a (as.map V.ref) ∧ RgI H as rs ∧ BadAt (nv m) rs j ∧ ∀ (d : Addr) (H' : Hp), Same H H' → H' d = none → E (.ref CR) (some d) (upd H' d (.xd [("index", nv j)])))
theorem ok_Wire_initX {f : Addr} {fd : FuncData} (F : Fun K "__init__" "Wire.__init__" s_Wire_init f fd) (D_moves_ofX : DefOk P w K mg base (L2.CX P w) 3 "moves_of" ["rings", "size"] [] (spMovesX K CR)) (D_NoSize : ErrOk P w K mg base CX0 1 CS "NoSize" "size" "size") :
    FnOk P w K mg base (L2.CX P w) 4 f fd ["self", "size", "rings"] (spInitX K C CS CR) := by
  refine F.okX sc_Wire_init (fun vs H Q E h => ?_) (fun cdv A outer s H vs Q E hr h => ?_)
  · obtain ⟨p, dx, a, n, rfl, _⟩ := h; rfl
  · obtain ⟨p, dx, a, n, rfl, hp, h⟩ := h
    refine ⟨_, pss_cons (ps_if (pt_cmpR op_lt (pv 1) pe_int (nomark _)) (pss_one (ps_raise rfl (takes_of rfl rfl rfl rfl) (pmk_err D_NoSize hr pass0 (pv 1)))) pss_nil)
      (pss_cons (ps_set (i := 3) sc_Wire_init.nd rfl (.inr rfl) (pe_d D_moves_ofX hr (passes_call (takes_of rfl rfl rfl rfl) (fun _ _ _ _ h => h)) (pa_cons (pv 2) (pa_cons (pv 1) pa_nil)))) pss_never), ?_⟩
    rcases h with ⟨hn, q⟩ | ⟨m, as, rs, j, rfl, hm, hS, hg, hb, q⟩
    · exact ⟨_, rfl, _, _, rfl, rfl, _, rfl, decT hn ⟨_, rfl, fun d nd => q d nd⟩⟩
    · exact ⟨_, rfl, _, _, rfl, rfl, _, rfl, decF (by omega) ⟨_, rfl, _, rfl, a, nv m, as, rs, j, rfl, hS, hg, hb, fun d H' s nd => q d H' s nd⟩⟩
/-! ### _law_refused -/
abbrev s_l_refused : Stmt := top 45
theorem sc_l_refused : FnScope ["_law_size_here", "_law_rings_here", "e"] ["_law_size_here", "_law_rings_here"] (defScope s_l_refused) := ⟨rfl, rfl, rfl, by decide +kernel, rfl, by decide +kernel, by decide +kernel⟩

def spRefused (K : PySem.W.Frag) : Sp := fun vs H Q _ => ∃ (a : Addr) (n : Int), vs = [.int n, .ref a] ∧
  ((n < 1 ∧ ∀ (T : Addr) (H' : Hp), Same H H' → H T = none → H' T = some (.tup [.str "size", .int n]) → Q (.ref T) H') ∨
    ∃ (m : Nat) (as : List Addr) (rs : List (List Int)) (j : Nat), n = m ∧ 1 ≤ m ∧ SqL K H a (as.map V.ref) ∧ RgI H as rs ∧ BadAt (nv m) rs j ∧ ∀ (T : Addr) (H' : Hp), Same H H' → H T = none → H' T = some (.tup [.str "ring", nv j]) → Q (.ref T) H')
theorem ok_l_refused {f : Addr} {fd : FuncData} (F : Fun K "_law_refused" "_law_refused" s_l_refused f fd) (hS : ErrC K CS) (hR : ErrC K CR) (gS : mg "NoSize" = some (.ref CS)) (gR : mg "NoRing" = some (.ref CR))
    (nS : PySem.W.findIn K (.ref CS) "size" = some none) (nR : PySem.W.findIn K (.ref CR) "index" = some none) (eSS : PySem.W.exmOne K (.ref CS) (.ref CS) = some true) (eRS : PySem.W.exmOne K (.ref CR) (.ref CS) = some false) (eRR : PySem.W.exmOne K (.ref CR) (.ref CR) = some true)
    (M_WireX : MakeOk P w K mg base (L2.CX P w) 4 C "Wire" ["self", "size", "rings"] [] (spInitX K C CS CR)) : FnOk P w K mg base CX0 6 f fd ["_law_size_here", "_law_rings_here"] (spRefused K) := by
  refine F.ok sc_l_refused (fun vs H Q E h => ?_) (fun cdv A outer s H vs Q E hr h => ?_)
  · obtain ⟨a, n, rfl, _⟩ := h; rfl
  · obtain ⟨a, n, rfl, h⟩ := h
    refine ⟨_, pss_cons (ps_try_manyA (tb := fun W => tDrop (tMakeS C (spInitX K C CS CR) [] (WE W) (tCons (tVar 0) (tCons (tVar 1) tNil)))) (W0 := fun _ _ _ _ => False)
        (l := [(.ref CS, 2, fun a cls d => tRet (tTup (tCons (tC (.str "size")) (tCons (tXf a cls d CS "size" (tVar 2)) tNil)))), (.ref CR, 2, fun a cls d => tRet (tTup (tCons (tC (.str "ring")) (tCons (tXf a cls d CR "index" (tVar 2)) tNil))))])
        rfl rfl sc_l_refused.nd takes0 (fun W pn xe tk _ => pss_one (ps_expr (by exact (pe_mkS M_WireX hr (fun σ => passAt tk σ) (pa_cons (pv 0) (pa_cons (pv 1) pa_nil))))))
        (.cons ⟨rfl, by decide, Or.inl gS⟩ rfl rfl (fun a oe cls d pn hz hf => pss_one (ps_ret (by exact (pe_tup (pa_cons pe_str (pa_cons (pe_xf hS.xf nS hz hf (pv 2)) pa_nil))))))
        (.cons ⟨rfl, by decide, Or.inl gR⟩ rfl rfl (fun a oe cls d pn hz hf => pss_one (ps_ret (by exact (pe_tup (pa_cons pe_str (pa_cons (pe_xf hR.xf nR hz hf (pv 2)) pa_nil)))))) .nil)))
      (pss_one ps_never), ?_⟩
    refine ⟨_, rfl, _, rfl, fun y dx ny ndx nex => ?_⟩
    have s2 : Same H (upd (upd H dx (.own y)) y (.ins C dx [])) := (same_upd ndx).trans (same_upd (by rw [upd_ne nex.symm]; exact ny))
    refine ⟨y, dx, a, n, rfl, upd_same, ?_⟩
    rcases h with ⟨hn, q⟩ | ⟨m, as, rs, j, rfl, hm, hSq, hg, hb, q⟩
    · refine .inl ⟨hn, fun d nd => ⟨true, eSS, fun _ a0 _ => ?_, fun z => Bool.noConfusion z⟩⟩
      refine ⟨_, rfl, rfl, rfl, d, _, _, rfl, upd_same, lk0, ?_⟩
      exact ⟨by show 2 ≤ sizeLine; decide, fun T nT => q T _ (s2.trans ((same_upd nd).trans (same_upd nT))) ((s2.trans (same_upd nd)).free nT) upd_same⟩
    · refine .inr ⟨m, as, rs, j, rfl, hm, s2.seq hSq, ⟨hg.1, fun i b r h1 h2 => s2 _ _ (hg.2 i b r h1 h2)⟩, hb, fun d H' s3 nd => ⟨false, eRS, (fun z => Bool.noConfusion z), fun _ => ⟨true, eRR, fun _ a0 _ => ?_, fun z => Bool.noConfusion z⟩⟩⟩
      refine ⟨_, rfl, rfl, rfl, d, _, _, rfl, upd_same, lk0, ?_⟩
      exact ⟨by show 2 ≤ sizeLine; decide, fun T nT => q T _ (s2.trans (s3.trans ((same_upd nd).trans (same_upd nT)))) (((s2.trans s3).trans (same_upd nd)).free nT) upd_same⟩
/-! ### wire[place] refused -/
def spGetX (C CP : Addr) : Sp := fun vs H Q E => ∃ (a : Addr) (im : List Nat) (i : Int), vs = [.ref a, .int i] ∧ WireAt C H a im ∧ (i < 0 ∨ (im.length : Int) ≤ i) ∧ ∀ d : Addr, H d = none → E (.ref CP) (some d) (upd H d (.xd [("place", .int i)]))
abbrev s_Wire_getitem : Stmt := inClass (top 16) 8
theorem sc_Wire_getitem : FnScope ["self", "at"] ["self", "at"] (defScope s_Wire_getitem) := ⟨rfl, rfl, rfl, by decide +kernel, rfl, by decide +kernel, by decide +kernel⟩

theorem ok_Wire_getitemX {f : Addr} {fd : FuncData} {CP : Addr} (F : Fun K "__getitem__" "Wire.__getitem__" s_Wire_getitem f fd) (W : WTxt K C) (D_NoPlace : ErrOk P w K mg base CX0 1 CP "NoPlace" "place" "place") : FnOk P w K mg base (L2.CX P w) 3 f fd ["self", "at"] (spGetX C CP) := by
  refine F.okX sc_Wire_getitem (fun vs H Q E h => ?_) (fun cdv A outer s H vs Q E hr h => ?_)
  · obtain ⟨a, im, i, rfl, _⟩ := h; rfl
  · obtain ⟨a, im, i, rfl, ⟨l, ⟨dx, h1⟩, h2⟩, hi, q⟩ := h
    refine ⟨_, (pss_cons (ps_if (PW.pt (pw_or (pt_cmpR op_lt (pv 1) pe_int (nomark _)) (pw_or1 (pt_cmpR op_ge (pv 1) (pe_fld (pv 0) rfl) (nomark _))))) (pss_one (ps_raise rfl (takes_of rfl rfl rfl rfl) (pmk_err D_NoPlace hr pass0 (pv 1)))) pss_nil)
    (pss_one (ps_ret (pe_ix ix_list (pe_fld (pv 0) rfl) (pv 1) (fun _ _ => rfl))))), ?_⟩
    by_cases c : i < 0
    · exact ⟨_, rfl, _, _, rfl, rfl, _, rfl, decT c (iteT ⟨_, rfl, fun d nd => q d nd⟩)⟩
    · refine ⟨_, rfl, _, _, rfl, rfl, _, rfl, decF c ?_⟩
      exact ⟨_, rfl, _, rfl, a, C, dx, _, _, rfl, h1, W.cl, W.nS, wF_size _ _, _, _, rfl, rfl, _, rfl, decT (by omega) ⟨_, rfl, fun d nd => q d nd⟩⟩
abbrev s_l_no_place : Stmt := top 46
theorem sc_l_no_place : FnScope ["_law_wire_here", "_law_place", "e"] ["_law_wire_here", "_law_place"] (defScope s_l_no_place) := ⟨rfl, rfl, rfl, by decide +kernel, rfl, by decide +kernel, by decide +kernel⟩

def spNoPlace (C : Addr) : Sp := fun vs H Q _ => ∃ (a : Addr) (im : List Nat) (i : Int), vs = [.ref a, .int i] ∧ WireAt C H a im ∧ (i < 0 ∨ (im.length : Int) ≤ i) ∧ ∀ H' : Hp, Same H H' → Q (.bl true) H'
theorem ok_l_no_place {f : Addr} {fd : FuncData} {CP : Addr} (F : Fun K "_law_no_place" "_law_no_place" s_l_no_place f fd) (hE : ErrC K CP) (g : mg "NoPlace" = some (.ref CP)) (no : PySem.W.findIn K (.ref CP) "place" = some none) (exm : PySem.W.exmOne K (.ref CP) (.ref CP) = some true)
    (hfn : ∀ f, PySem.W.findIn K (.ref C) "__getitem__" = some (some (.ref f)) → PySem.W.fnIn K f = true) (D_getX : MethOk P w K mg base (L2.CX P w) 3 C "__getitem__" ["self", "at"] [] (spGetX C CP)) : FnOk P w K mg base CX0 5 f fd ["_law_wire_here", "_law_place"] (spNoPlace C) := by
  refine F.ok sc_l_no_place (fun vs H Q E h => ?_) (fun cdv A outer s H vs Q E hr h => ?_)
  · obtain ⟨a, im, i, rfl, _⟩ := h; rfl
  · obtain ⟨a, im, i, rfl, hW, hi, q⟩ := h
    obtain ⟨l, ⟨dx, h1⟩, h2⟩ := id hW
    refine ⟨_, pss_cons (ps_try_as (i := 2) (tb := fun W => tDrop (tOwnIxS C (spGetX C CP) (WE W) (tVar 0) (tVar 1))) (ts := fun a cls d => tRet (tOp rEq (tXf a cls d CP "place" (tVar 2)) (tVar 1))) (Wout := fun _ _ _ _ => False)
        rfl rfl sc_l_no_place.nd rfl rfl ⟨rfl, by decide, Or.inl g⟩ takes0
        (fun W pn xe tk _ => pss_one (ps_expr (by exact (pe_ownIxS D_getX hfn hr (fun σ => passAt tk σ) (pv 0) (pv 1)))))
        (fun a oe cls d pn hz hf => pss_one (ps_ret (by exact (pe_cmpR op_eq (pe_xf hE.xf no hz hf (pv 2)) (pv 1) (nomark _))))))
      (pss_one ps_never), ?_⟩
    refine ⟨_, rfl, _, rfl, a, dx, _, i, rfl, rfl, h1, a, im, i, rfl, hW, hi, fun d nd => ?_⟩
    refine ⟨true, exm, fun _ a0 _ => ?_, fun q => Bool.noConfusion q⟩
    refine ⟨_, rfl, rfl, rfl, d, _, _, rfl, upd_same, lk0, _, rfl, rfl, ?_⟩
    have e : decide (V.int i = V.int i) = true := decide_eq_true rfl
    rw [e]
    exact q _ (same_upd nd)
end
section
variable {P : Program} {w : World} {K : PySem.W.Frag} {mg : Str → Option Value} {base : Heap} {CP : Addr}
/-! ### parts -/
def pF (n b m : V) : List (Str × V) := [("name", n), ("back", b), ("moves", m)]
theorem pF_name (n b m : V) : (pF n b m).lookup ("name" : Str) = some n := lk1
theorem pF_back (n b m : V) : (pF n b m).lookup ("back" : Str) = some b := (lk2 (by decide +kernel)).trans lk1
theorem pF_moves (n b m : V) : (pF n b m).lookup ("moves" : Str) = some m := (lk2 (by decide +kernel)).trans ((lk2 (by decide +kernel)).trans lk1)
theorem pF_new (n b m : V) : putF "moves" m (putF "back" b (putF "name" n [])) = pF n b m := by
  show putF "moves" m (if (("name" : Str) = "back") then _ else (("name" : Str), n) :: putF "back" b []) = _
  rw [if_neg (by decide +kernel)]
  show (if (("name" : Str) = "moves") then _ else (("name" : Str), n) :: putF "moves" m [(("back" : Str), b)]) = _
  rw [if_neg (by decide +kernel)]
  show (("name" : Str), n) :: (if (("back" : Str) = "moves") then _ else (("back" : Str), b) :: putF "moves" m []) = _
  rw [if_neg (by decide +kernel)]
  rfl
/-- the class of parts as the walk asks of it -/
structure PTxt (K : PySem.W.Frag) (C : Addr) : Prop where
  cl : Cls K C
  nN : NoAttr K C "name"
  nB : NoAttr K C "back"
  nM : NoAttr K C "moves"
abbrev s_Part_init : Stmt := inClass (top 26) 0
theorem sc_Part_init : FnScope ["self", "name", "back", "moves"] ["self", "name", "back", "moves"] (defScope s_Part_init) := ⟨rfl, rfl, rfl, by decide +kernel, rfl, by decide +kernel, by decide +kernel⟩

def spPart (CP : Addr) : Sp := fun vs H Q _ => ∃ (p dx : Addr) (n b m : V), vs = [.ref p, n, b, m] ∧ H p = some (.ins CP dx []) ∧ Q .non (upd (upd (upd H p (.ins CP dx [("name", n)])) p (.ins CP dx [("name", n), ("back", b)])) p (.ins CP dx (pF n b m)))
theorem ok_Part_init {f : Addr} {fd : FuncData} (F : Fun K "__init__" "Part.__init__" s_Part_init f fd) (W : PTxt K CP) : FnOk P w K mg base CX0 1 f fd ["self", "name", "back", "moves"] (spPart CP) := by
  refine F.ok sc_Part_init (fun vs H Q E h => ?_) (fun cdv A outer s H vs Q E hr h => ?_)
  · obtain ⟨p, dx, n, b, m, rfl, _⟩ := h; rfl
  · obtain ⟨p, dx, n, b, m, rfl, hp, q⟩ := h
    refine ⟨_, (pss_cons (ps_fld (pv 0) (pv 1) rfl)
    (pss_cons (ps_fld (pv 0) (pv 2) rfl)
    (pss_one (ps_fld (pv 0) (pv 3) rfl)))), ?_⟩
    refine ⟨_, rfl, _, rfl, p, CP, dx, [], rfl, hp, W.cl, W.nN, (by show 0 < 1000; decide), ?_⟩
    refine ⟨_, rfl, _, rfl, p, CP, dx, _, rfl, upd_same, W.cl, W.nB, (by show 1 < 1000; decide), ?_⟩
    refine ⟨_, rfl, _, rfl, p, CP, dx, _, rfl, upd_same, W.cl, W.nM, (by show 2 < 1000; decide), ?_⟩
    have e1 : putF "name" n [] = [(("name" : Str), n)] := rfl
    have e2 : putF "back" b (putF "name" n []) = [(("name" : Str), n), (("back" : Str), b)] := by
      show (if (("name" : Str) = "back") then _ else (("name" : Str), n) :: putF "back" b []) = _
      rw [if_neg (by decide +kernel)]
      rfl
    rw [pF_new, e2, e1]
    exact q
/-! ### known_part -/
abbrev s_known_part : Stmt := top 29
theorem sc_known_part : FnScope ["moves", "place", "image"] ["moves"] (defScope s_known_part) := ⟨rfl, rfl, rfl, by decide +kernel, rfl, by decide +kernel, by decide +kernel⟩

/-- the pairs that move a place -/
def moved (g : List (Nat × Nat)) : List (Nat × Nat) := g.filter fun p => decide (p.1 ≠ p.2)
def spKnownPart (CP : Addr) : Sp := fun vs H Q _ => ∃ (d : Addr) (g : List (Nat × Nat)), vs = [.ref d] ∧ H d = some (.dK (natKV g)) ∧ (g.map Prod.fst).Nodup ∧ g.length ≤ 2000 ∧
  ∀ (p dx m : Addr) (H' : Hp), Same H H' → H p = none → H m = none → m ≠ p → H' p = some (.ins CP dx (pF (.str "") (.bl false) (.ref m))) → H' m = some (.dK (natKV (moved g))) → Q (.ref p) H'
theorem ok_known_part {f : Addr} {fd : FuncData} (F : Fun K "known_part" "known_part" s_known_part f fd) (M_Part : MakeOk P w K mg base CX0 1 CP "Part" ["self", "name", "back", "moves"] [] (spPart CP)) : FnOk P w K mg base CX0 3 f fd ["moves"] (spKnownPart CP) := by
  refine F.ok sc_known_part (fun vs H Q E h => ?_) (fun cdv A outer s H vs Q E hr h => ?_)
  · obtain ⟨d, g, rfl, _⟩ := h; rfl
  · obtain ⟨d, g, rfl, hd, hn, hl, q⟩ := h
    refine ⟨_, (pss_one (ps_ret (pe_mk' M_Part hr pass0 (pa_cons pe_str (pa_cons pe_bl (pa_cons (pe_lock (pe_dc (own := [("place", 1), ("image", 2)]) (tt := tTest (tOp rNe (tVar 1) (tVar 2))) (g := gTup K 2 (gCons (gName 1) (gCons (gName 2) gNil))) (tk := tVar 1) (tv := tVar 2) rfl sc_known_part.nd (pi_items (pv 0)) (blkOk_by (N := ["moves", "place", "image"]) (sc := defScope s_known_part) (by decide +kernel)) (fun _ _ _ _ _ => (pg_tup rfl (pgs_cons (pg_name (i := 1) sc_known_part.nd rfl (.inl rfl)) (pgs_cons (pg_name (i := 2) sc_known_part.nd rfl (.inl rfl)) pgs_nil)))) (fun _ _ _ _ _ => (by exact (pts_one (pt_cmpR op_ne (pv 1) (pv 2) (nomark _))))) (fun _ _ _ _ _ => by exact (pv 1)) (fun _ _ _ _ _ => by exact (pv 2)))) pa_nil)))))), ?_⟩
    refine ⟨d, _, hd, trivial, fun od => ?_⟩
    have nDd : ∀ D, (upd H d (.frz od (.dK (natKV g)))) D = none → D ≠ d := fun D nD e => by rw [e, upd_same] at nD; cases nD
    refine ⟨_, rfl, d, od, natKV g, rfl, upd_same, fun D nD => ?_⟩
    have hDd := nDd D nD
    have nDH : H D = none := by rw [upd_ne hDd] at nD; exact nD
    refine dc_walk (walk_items (d := d) (o := od) (kvs := natKV g)) (fun i H1 => Same (upd H d (.frz od (.dK (natKV g)))) H1 ∧ H1 D = some (.dK (natKV (moved (g.take i))))) ⟨same_upd nD, upd_same⟩ (fun i H1 _ ⟨s1, _⟩ => s1 _ _ upd_same) ?_ ?_
    · rintro i y H1 H2 hi ⟨s1, hD⟩ ⟨T, x1, x2, rfl, nT, rfl, f1, f2⟩
      rw [natKV_len] at hi
      obtain ⟨ab, hab⟩ : ∃ ab, g[i]? = some ab := ⟨_, List.getElem?_eq_getElem hi⟩
      obtain ⟨a, b⟩ := ab
      have ek : (natKV g)[i]? = some (Sum.inl (a : Int), nv b) := by unfold natKV; rw [List.getElem?_map, hab]; rfl
      have f1 : ((natKV g)[i]?.map fun kv => kV kv.1) = some x1 := f1
      have f2 : ((natKV g)[i]?.map Prod.snd) = some x2 := f2
      rw [ek] at f1 f2
      have e1 : x1 = V.int (a : Int) := (Option.some.inj f1).symm
      have e2 : x2 = nv b := (Option.some.inj f2).symm
      subst e1
      subst e2
      have DT : D ≠ T := ne_of_none hD nT
      have s2 : Same (upd H d (.frz od (.dK (natKV g)))) (upd H1 T (.tup [V.int (a : Int), nv b])) := mutS s1 (s1.free nT)
      refine ⟨T, _, rfl, SqT.of upd_same, rfl, _, _, rfl, _, _, rfl, rfl, rfl, ?_⟩
      refine ⟨_, rfl, _, rfl, rfl, _, rfl, ?_⟩
      have et : g.take (i + 1) = g.take i ++ [(a, b)] := by rw [List.take_add_one, hab]; rfl
      by_cases c : a = b
      · have e : (!decide (V.int (a : Int) = nv b)) = false := by rw [decide_eq_true (by rw [c]; rfl)]; rfl
        rw [e]
        refine iteF ⟨s2, ?_⟩
        rw [upd_ne DT, hD, et]
        unfold moved
        rw [List.filter_append, List.filter_cons_of_neg (by simp [c]), List.filter_nil, List.append_nil]
      · have e : (!decide (V.int (a : Int) = nv b)) = true := by rw [decide_eq_false (fun z => c (by have := V.int.inj z; omega))]; rfl
        rw [e]
        refine iteT ⟨_, rfl, _, rfl, natKV (moved (g.take i)), Sum.inl (a : Int), rfl, by rw [upd_ne DT]; exact hD, ?_, mutS s2 nD, ?_⟩
        · rw [natKV_len]
          have l1 : (moved (g.take i)).length ≤ (g.take i).length := List.length_filter_le _ _
          rw [List.length_take] at l1
          exact small64 (by omega)
        · rw [upd_same, et]
          have hno : valV (natKV (moved (g.take i))) (Sum.inl (a : Int)) = none := by
            refine natKV_none fun hm => ?_
            obtain ⟨p, hp, ep⟩ := List.mem_map.mp hm
            have hp' := (List.mem_filter.mp hp).1
            have eg : g = g.take i ++ (a, b) :: g.drop (i + 1) := by
              obtain ⟨hlt, ex⟩ := List.getElem?_eq_some_iff.mp hab
              rw [← ex, ← List.drop_eq_getElem_cons hlt, List.take_append_drop]
            rw [eg, List.map_append, List.map_cons] at hn
            exact (List.nodup_append.mp hn).2.2 p.1 (List.mem_map.mpr ⟨p, hp', rfl⟩) a List.mem_cons_self ep
          rw [putK_new _ hno]
          unfold moved
          rw [List.filter_append, List.filter_cons_of_pos (by simp [c]), List.filter_nil, natKV_append]
          rfl
    · rintro H1 ⟨s1, hD⟩
      rw [natKV_len, List.take_length] at hD
      refine ⟨s1 _ _ upd_same, ?_⟩
      have sx : Same H (upd H1 d (.dK (natKV g))) := fun b u hb => by
        by_cases c : b = d
        · rw [c, upd_same, ← hd, ← c, hb]
        · rw [upd_ne c]
          exact s1 b u (by rw [upd_ne c]; exact hb)
      intro p dx np ndx nex
      have nDp : D ≠ p := fun e => by rw [← e, upd_ne hDd, hD] at np; cases np
      have nDdx : D ≠ dx := fun e => by rw [← e, upd_ne hDd, hD] at ndx; cases ndx
      refine ⟨p, dx, _, _, _, rfl, upd_same, rfl, ?_⟩
      refine q p dx D _ ?_ (sx.free np) nDH nDp upd_same ?_
      · intro b u hb
        have hb' := sx b u hb
        have bp : b ≠ p := ne_of_none hb' np
        have bdx : b ≠ dx := ne_of_none hb' ndx
        rw [upd_ne bp, upd_ne bp, upd_ne bp, upd_ne bp, upd_ne bdx]
        exact hb'
      · rw [upd_ne nDp, upd_ne nDp, upd_ne nDp, upd_ne nDp, upd_ne nDdx, upd_ne hDd]
        exact hD
end
/-! ### lists of lists of places compared -/
def dR (r : List Nat) : PyData := .list (r.map fun (x : Nat) => PyData.int x)
theorem dpRs {K : PySem.W.Frag} {H : Hp} {a : Addr} {as : List Addr} {rs : List (List Nat)} (h : SqL K H a (as.map V.ref)) (g : Rg H as rs) : Dp K H (.ref a) (.list (rs.map dR)) := by
  refine .lst h ?_
  clear h
  have key : ∀ (as : List Addr) (rs : List (List Nat)), as.length = rs.length → (∀ (i : Nat) (b : Addr) (r : List Nat), as[i]? = some b → rs[i]? = some r → H b = some (.lst (r.map nv))) → DpAll K H (as.map V.ref) (rs.map dR) := by
    intro as
    induction as with
    | nil =>
      intro rs hl _
      cases rs with
      | nil => exact .nil
      | cons r rs => cases hl
    | cons b as ih =>
      intro rs hl hh
      cases rs with
      | nil => cases hl
      | cons r rs =>
        refine .cons (dpI (SqL.of (hh 0 b r rfl rfl))) (ih rs (by simpa using hl) fun i b' r' h1 h2 => hh (i + 1) b' r' ?_ ?_)
        · rw [List.getElem?_cons_succ]; exact h1
        · rw [List.getElem?_cons_succ]; exact h2
  exact key as rs g.len fun i b r h1 h2 => g.at_ i b r h1 h2
theorem canRs (rs : List (List Nat)) : PyData.canLayAll0 (rs.map dR) = true := by
  induction rs with
  | nil => rfl
  | cons r rs ih =>
    have : PyData.canLay0 (dR r) = true := by
      unfold dR
      rw [PyData.canLay0]
      exact canI r
    rw [List.map_cons, PyData.canLayAll0, this, ih]
    rfl
theorem depRs (rs : List (List Nat)) : PyData.depthAll (rs.map dR) ≤ 1 := by
  induction rs with
  | nil => exact Nat.zero_le _
  | cons r rs ih =>
    have : PyData.depth (dR r) ≤ 1 := by
      unfold dR
      rw [PyData.depth, depI]
      exact Nat.le_refl _
    rw [List.map_cons, PyData.depthAll]
    omega
theorem shRs (rs : List (List Nat)) : SeqAt.shaped (.list (rs.map dR)) = true := by
  unfold SeqAt.shaped
  rw [PyData.canLay0, canRs, PyData.depth, Bool.true_and]
  have := depRs rs
  exact decide_eq_true (by omega)
theorem eqRs (rs : List (List Nat)) : PyData.eqv (.list (rs.map dR)) (.list (rs.map dR)) = true := by
  rw [PyData.eqv]
  induction rs with
  | nil => rfl
  | cons r rs ih =>
    have : PyData.eqv (dR r) (dR r) = true := by
      unfold dR
      rw [eqI]
      exact decide_eq_true rfl
    rw [List.map_cons, PyData.eqvAll, this, ih]
    rfl
section
variable {P : Program} {w : World} {K : PySem.W.Frag} {mg : Str → Option Value} {base : Heap} {C : Addr}
/-! ### _law_refused where nothing is refused -/
def spTaken (K : PySem.W.Frag) : Sp := fun vs H Q _ => ∃ (a : Addr) (n : Nat) (f : Nat → Nat) (as : List Addr) (rs : List (List Nat)), vs = [nv n, .ref a] ∧ SqL K H a (as.map V.ref) ∧ Rg H as rs ∧ RingsOf f n rs ∧ 1 ≤ n ∧ n ≤ 1000 ∧
  ∀ (T : Addr) (H' : Hp), Same H H' → H T = none → H' T = some (.tup [.str "taken"]) → Q (.ref T) H'
theorem ok_l_taken {f : Addr} {fd : FuncData} (F : Fun K "_law_refused" "_law_refused" s_l_refused f fd) (M_Wire : MakeOk P w K mg base CX0 2 C "Wire" ["self", "size", "rings"] [] (spInit K C)) : FnOk P w K mg base CX0 4 f fd ["_law_size_here", "_law_rings_here"] (spTaken K) := by
  refine F.ok sc_l_refused (fun vs H Q E h => ?_) (fun cdv A outer s H vs Q E hr h => ?_)
  · obtain ⟨a, n, f, as, rs, rfl, _⟩ := h; rfl
  · obtain ⟨a, n, f, as, rs, rfl, hS, hg, R, n1, n2, q⟩ := h
    refine ⟨_, pss_cons (ps_try_thru0 (pss_one (ps_expr (pe_mk' M_Wire hr pass0 (pa_cons (pv 0) (pa_cons (pv 1) pa_nil)))))) (pss_one (ps_ret (pe_tup (pa_cons pe_str pa_nil)))), ?_⟩
    refine ⟨_, rfl, _, rfl, fun x dx nx ndx nex => ?_⟩
    have s2 : Same H (upd (upd H dx (.own x)) x (.ins C dx [])) := (same_upd ndx).trans (same_upd (by rw [upd_ne nex.symm]; exact nx))
    refine ⟨x, dx, a, n, f, as, rs, rfl, upd_same, s2.seq hS, hg.mono s2, R, n1, n2, fun l H2 k nl hx hl => ⟨rfl, ?_⟩⟩
    have s3 : Same H H2 := Same.made nx ndx k
    exact ⟨by show 1 ≤ sizeLine; decide, fun T nT => q T _ (s3.trans (same_upd nT)) (s3.free nT) upd_same⟩
/-! ### _law_is_kept -/
abbrev s_l_is_kept : Stmt := top 50
theorem sc_l_is_kept : FnScope ["_law_wire_here", "_law_images", "_law_first", "_law_second", "_law_ring"] ["_law_wire_here", "_law_images"] (defScope s_l_is_kept) := ⟨rfl, rfl, rfl, by decide +kernel, rfl, by decide +kernel, by decide +kernel⟩

def spKept (K : PySem.W.Frag) (C : Addr) : Sp := fun vs H Q _ => ∃ (x a : Addr) (im : List Nat), vs = [.ref x, .ref a] ∧ WireAt C H x im ∧ SqL K H a (im.map nv) ∧ IsPerm im ∧ im.length ≤ 60 ∧ ∀ H' : Hp, Same H H' → Q (.bl true) H'
theorem ok_l_is_kept {f : Addr} {fd : FuncData} (F : Fun K "_law_is_kept" "_law_is_kept" s_l_is_kept f fd) (T : BltC K mg C) (D_Wire_images : MethOk P w K mg base CX0 1 C "images" ["self"] [] (spImages C)) (D_Wire_rings : MethOk P w K mg base CX0 2 C "rings" ["self"] [] (spWRings C))
    (D_l_rings : DefOk P w K mg base CX0 1 "_law_rings" ["_law_images"] [] (spRings K)) : FnOk P w K mg base CX0 3 f fd ["_law_wire_here", "_law_images"] (spKept K C) := by
  refine F.ok sc_l_is_kept (fun vs H Q E h => ?_) (fun cdv A outer s H vs Q E hr h => ?_)
  · obtain ⟨x, a, im, rfl, _⟩ := h; rfl
  · obtain ⟨x, a, im, rfl, hW, hS, hI, hn, q⟩ := h
    obtain ⟨l, ⟨dx, h1⟩, h2⟩ := id hW
    have hu2 : (A.deeper (envOfC "_law_is_kept" (defScope s_l_is_kept) s.heap.objs.size f cdv)).units + 64 < cLine := by have := hr.un; omega
    refine ⟨_, (pss_cons (ps_set (i := 2) sc_l_is_kept.nd rfl (.inl rfl) (pe_m0 D_Wire_images T.cl hr pass0 (pv 0)))
    (pss_cons (ps_expr (pe_bm0 PySem.F.plainAttrs_list PySem.F.slot_list_clear PySem.F.type_list_clear mt_clear (pv 2)))
    (pss_cons (ps_set (i := 3) sc_l_is_kept.nd rfl (.inl rfl) (pe_m0 D_Wire_rings T.cl hr pass0 (pv 0)))
    (pss_cons (ps_for PassesOwn.never rfl (pi_list (pv 3)) (pg_name (i := 4) sc_l_is_kept.nd rfl (.inl rfl)) (pss_one (ps_expr (pe_bm PySem.F.plainAttrs_list PySem.F.slot_list_append PySem.F.type_list_append mt_append (pv 4) (pa_cons pe_int pa_nil)))))
    (pss_cons (ps_expr (pe_bm0 PySem.F.plainAttrs_list PySem.F.slot_list_clear PySem.F.type_list_clear mt_clear (pv 3)))
    (pss_one (ps_ret (pe_and (pe_cmpR (op_eqD hu2) (pe_m0 D_Wire_images T.cl hr pass0 (pv 0)) (pv 1) (nomark _)) (pe_one (pe_cmpR (op_eqD hu2) (pe_m0 D_Wire_rings T.cl hr pass0 (pv 0)) (pe_d D_l_rings hr pass0 (pa_cons (pv 1) pa_nil)) (nomark _))))))))))), ?_⟩
    have w1 := wF_no im.length l (m := "images") (by decide +kernel) (by decide +kernel)
    have w2 := wF_no im.length l (m := "rings") (by decide +kernel) (by decide +kernel)
    refine ⟨_, rfl, x, dx, _, rfl, h1, w1, x, im, rfl, hW, by omega, fun o H1 s1 no ho => ?_⟩
    refine ⟨_, rfl, .inl ⟨rfl, _, SqL.of ho⟩, ?_⟩
    refine ⟨o, _, rfl, rfl, ho, ?_⟩
    have s2 : Same H (upd H1 o (.lst [])) := mutS s1 no
    generalize upd H1 o (.lst []) = H2 at s2 ⊢
    refine ⟨_, rfl, x, dx, _, rfl, s2 _ _ h1, w2, x, im, rfl, hW.mono s2, hI, hn, fun o2 as H3 s3 no2 nas hoa hnd ho2 hg => ?_⟩
    have s23 := s2.trans s3
    have P := hI.perm
    refine ⟨_, rfl, o2, rfl, ⟨_, SqL.of ho2⟩, for_list (K := K) (a := o2) (xs := as.map V.ref) (fun i σ H' => ∃ v4 : Option V, σ = [some (.ref x), some (.ref a), some (.ref o), some (.ref o2), v4] ∧ Same H H' ∧ H' o2 = some (.lst (as.map V.ref)) ∧
        ∀ (j : Nat) (b : Addr) (r : List Nat), i ≤ j → as[j]? = some b → (rings (ap im) im.length)[j]? = some r → H' b = some (.lst (r.map nv)))
      ⟨none, rfl, s23, ho2, fun j b r _ h1 h2 => hg.at_ j b r h1 h2⟩ (fun i σ H' _ ⟨_, _, _, h, _⟩ => SqL.of h) ?_ ?_⟩
    · rintro i y σ H' hi ⟨v4, rfl, s4, h4, hr4⟩
      obtain ⟨b, hb, rfl⟩ : ∃ b, as[i]? = some b ∧ y = V.ref b := by
        rw [List.getElem?_map] at hi
        cases e : as[i]? with
        | none => rw [e] at hi; cases hi
        | some b => rw [e] at hi; exact ⟨b, rfl, (Option.some.inj hi).symm⟩
      have hil : i < (rings (ap im) im.length).length := by rw [← hg.len]; exact (List.getElem?_eq_some_iff.mp hb).1
      obtain ⟨r, hr'⟩ : ∃ r, (rings (ap im) im.length)[i]? = some r := ⟨_, List.getElem?_eq_getElem hil⟩
      have hbm := List.mem_of_getElem? hb
      have hbr := hr4 i b r (Nat.le_refl _) hb hr'
      have rl := mem_len (List.mem_of_getElem? hr')
      have tot := rings_total P
      have nb : H b = none := s2.free (nas b hbm)
      have bo : b ≠ o2 := fun e => hoa (e ▸ hbm)
      refine ⟨_, rfl, .inl ⟨rfl, _, SqL.of hbr⟩, b, _, _, rfl, rfl, hbr, small64 (by rw [List.length_map]; omega), ?_⟩
      refine ⟨_, rfl, mutS s4 nb, by rw [upd_ne bo.symm]; exact h4, fun j b' r' hij h1 h2 => ?_⟩
      have ne : b' ≠ b := fun e => by
        obtain ⟨l1, e1⟩ := List.getElem?_eq_some_iff.mp h1
        obtain ⟨l2, e2⟩ := List.getElem?_eq_some_iff.mp hb
        have := (List.getElem_inj hnd).mp (e1.trans (e.trans e2.symm))
        omega
      rw [upd_ne ne]
      exact hr4 j b' r' (by omega) h1 h2
    · rintro σ H' ⟨v4, rfl, s4, h4, _⟩
      refine ⟨_, rfl, .inl ⟨rfl, _, SqL.of h4⟩, o2, _, rfl, rfl, h4, ?_⟩
      have s5 : Same H (upd H' o2 (.lst [])) := mutS s4 (s2.free no2)
      generalize upd H' o2 (.lst []) = H5 at s5 ⊢
      refine ⟨_, rfl, x, dx, _, rfl, s5 _ _ h1, w1, x, im, rfl, hW.mono s5, by omega, fun o6 H6 s6 no6 ho6 => ?_⟩
      have s56 := s5.trans s6
      refine ⟨_, rfl, _, _, dpI (SqL.of ho6), dpI (s56.seq hS), shI _, shI _, ?_⟩
      rw [eqI, decide_eq_true rfl]
      refine ⟨true, rfl, iteT ?_⟩
      refine ⟨_, rfl, x, dx, _, rfl, s56 _ _ h1, w2, x, im, rfl, hW.mono s56, hI, hn, fun o7 as7 H7 s7 no7 nas7 hoa7 hnd7 ho7 hg7 => ?_⟩
      have s567 := s56.trans s7
      refine ⟨_, rfl, a, im, rfl, s567.seq hS, hI, by omega, fun o8 as8 H8 s8 no8 nas8 hoa8 hnd8 ho8 hg8 => ?_⟩
      refine ⟨_, _, dpRs (SqL.of (s8 _ _ ho7)) (hg7.mono s8), dpRs (SqL.of ho8) hg8, shRs _, shRs _, ?_⟩
      rw [eqRs]
      exact q H8 (s567.trans s8)
end
section
variable {P : Program} {w : World} {K : PySem.W.Frag} {mg : Str → Option Value} {base : Heap} {CP CW : Addr}
/-- a part that is a known wire, its dict at m -/
def PartK (CP : Addr) (H : Hp) (p m : Addr) (kv : List (Key × V)) : Prop := (∃ dx, H p = some (.ins CP dx (pF (.str "") (.bl false) (.ref m)))) ∧ H m = some (.dK kv)
abbrev s_one_form : Stmt := top 28
theorem sc_one_form : FnScope ["parts", "kinds", "row", "part", "moves", "turns", "back"] ["parts", "kinds"] (defScope s_one_form) := ⟨rfl, rfl, rfl, by decide +kernel, rfl, by decide +kernel, by decide +kernel⟩

def spOne1 (K : PySem.W.Frag) (CP : Addr) : Sp := fun vs H Q _ => ∃ (a b p m : Addr) (kv : List (Key × V)), vs = [.ref a, .ref b] ∧ SqL K H a [.ref p] ∧ PartK CP H p m kv ∧
  ∀ (o : Addr) (H' : Hp), Same H H' → H o = none → ((kv = [] ∧ H' o = some (.lst [])) ∨ (kv ≠ [] ∧ ∃ p2, H p2 = none ∧ H' o = some (.lst [.ref p2]) ∧ PartK CP H' p2 m kv)) → Q (.ref o) H'
theorem ok_one_form1 {f : Addr} {fd : FuncData} (F : Fun K "one_form" "one_form" s_one_form f fd) (W : PTxt K CP) (M_Part : MakeOk P w K mg base CX0 1 CP "Part" ["self", "name", "back", "moves"] [] (spPart CP)) : FnOk P w K mg base CX0 3 f fd ["parts", "kinds"] (spOne1 K CP) := by
  refine F.ok sc_one_form (fun vs H Q E h => ?_) (fun cdv A outer s H vs Q E hr h => ?_)
  · obtain ⟨a, b, p, m, kv, rfl, _⟩ := h; rfl
  · obtain ⟨a, b, p, m, kv, rfl, hS, ⟨⟨dx, h1⟩, h2⟩, q⟩ := h
    refine ⟨_, (pss_cons (ps_set (i := 2) sc_one_form.nd rfl (.inl rfl) (pe_lst pa_nil))
    (pss_cons (ps_for PassesOwn.never rfl (pi_list (pv 0)) (pg_name (i := 3) sc_one_form.nd rfl (.inl rfl)) (pss_cons (ps_if (pt_not (pt_truth (pe_fld (pv 3) rfl) (by intro _; rfl))) (pss_cons (ps_set (i := 4) sc_one_form.nd rfl (.inl rfl) (pe_fld (pv 3) rfl))
    (pss_cons (ps_if (PW.pt (pw_and (pt_truth (pv 2) (by intro _; rfl)) (pw_and1 (pt_not (pt_truth (pe_fld (pe_ix ix_list (pv 2) (pe_un un_neg pe_int) (fun _ _ => rfl)) rfl) (by intro _; rfl)))))) pss_never pss_nil)
    (pss_cons (ps_if (pt_truth (pv 4) (by intro _; rfl)) (pss_one (ps_expr (pe_bm PySem.F.plainAttrs_list PySem.F.slot_list_append PySem.F.type_list_append mt_append (pv 2) (pa_cons (pe_mk' M_Part hr pass0 (pa_cons pe_str (pa_cons pe_bl (pa_cons (pv 4) pa_nil)))) pa_nil)))) pss_nil)
    (pss_one ps_continue)))) pss_nil)
    pss_never))
    (pss_one (ps_ret (pv 2))))), ?_⟩
    refine ⟨Nat.zero_le _, fun o no => ?_⟩
    have s1 : Same H (upd H o (.lst [])) := same_upd no
    have ho : (upd H o (.lst [])) o = some (.lst []) := upd_same
    generalize upd H o (.lst []) = H1 at s1 ho ⊢
    refine ⟨_, rfl, a, rfl, ⟨_, s1.seq hS⟩, for_list (K := K) (a := a) (xs := [.ref p]) (fun i σ H' => ∃ v3 v4 : Option V, σ = [some (.ref a), some (.ref b), some (.ref o), v3, v4, none, none] ∧ Same H H' ∧
        ((i = 0 ∧ H' o = some (.lst [])) ∨ (1 ≤ i ∧ ((kv = [] ∧ H' o = some (.lst [])) ∨ (kv ≠ [] ∧ ∃ p2, H p2 = none ∧ H' o = some (.lst [.ref p2]) ∧ PartK CP H' p2 m kv)))))
      ⟨none, none, rfl, s1, .inl ⟨rfl, ho⟩⟩ (fun i σ H' _ ⟨_, _, _, s, _⟩ => s.seq hS) ?_ ?_⟩
    · rintro i y σ H' hi ⟨v3, v4, rfl, s2, hc⟩
      have i0 : i = 0 := by
        have := (List.getElem?_eq_some_iff.mp hi).1
        rw [List.length_singleton] at this
        omega
      subst i0
      cases hi
      have ho' : H' o = some (.lst []) := by
        rcases hc with ⟨_, h⟩ | ⟨h, _⟩
        · exact h
        · omega
      have h1' := s2 _ _ h1
      have h2' := s2 _ _ h2
      refine ⟨_, rfl, p, CP, dx, _, _, rfl, h1', W.cl, W.nN, pF_name _ _ _, false, ⟨by decide +kernel, by decide +kernel⟩, iteT ?_⟩
      refine ⟨_, rfl, p, CP, dx, _, _, rfl, h1', W.cl, W.nM, pF_moves _ _ _, ?_⟩
      refine ⟨_, rfl, false, .inl ⟨[], SqL.of ho', rfl⟩, iteF (iteF ?_)⟩
      refine ⟨_, rfl, !kv.isEmpty, .inr (.inr ⟨kv, h2', rfl⟩), ?_⟩
      cases kv with
      | nil => exact iteF ⟨_, _, rfl, s2, .inr ⟨Nat.le_refl _, .inl ⟨rfl, ho'⟩⟩⟩
      | cons e kv =>
        refine iteT ?_
        refine ⟨_, rfl, .inl ⟨rfl, _, SqL.of ho'⟩, _, rfl, fun x dx2 nx ndx nex => ?_⟩
        have ox : o ≠ x := ne_of_none ho' nx
        have odx : o ≠ dx2 := ne_of_none ho' ndx
        have mx : m ≠ x := ne_of_none h2' nx
        have mdx : m ≠ dx2 := ne_of_none h2' ndx
        refine ⟨x, dx2, _, _, _, rfl, upd_same, rfl, ?_⟩
        have s3 : Same H (upd (upd (upd (upd (upd H' dx2 (.own x)) x (.ins CP dx2 [])) x (.ins CP dx2 [("name", .str "")])) x (.ins CP dx2 [("name", .str ""), ("back", .bl false)])) x (.ins CP dx2 (pF (.str "") (.bl false) (.ref m)))) := fun c u hc => by
          have hc' := s2 c u hc
          have cx : c ≠ x := ne_of_none hc' nx
          have cd : c ≠ dx2 := ne_of_none hc' ndx
          rw [upd_ne cx, upd_ne cx, upd_ne cx, upd_ne cx, upd_ne cd]
          exact hc'
        have ho3 : (upd (upd (upd (upd (upd H' dx2 (.own x)) x (.ins CP dx2 [])) x (.ins CP dx2 [("name", .str "")])) x (.ins CP dx2 [("name", .str ""), ("back", .bl false)])) x (.ins CP dx2 (pF (.str "") (.bl false) (.ref m)))) o = some (.lst []) := by
          rw [upd_ne ox, upd_ne ox, upd_ne ox, upd_ne ox, upd_ne odx]
          exact ho'
        have hm3 : (upd (upd (upd (upd (upd H' dx2 (.own x)) x (.ins CP dx2 [])) x (.ins CP dx2 [("name", .str "")])) x (.ins CP dx2 [("name", .str ""), ("back", .bl false)])) x (.ins CP dx2 (pF (.str "") (.bl false) (.ref m)))) m = some (.dK (e :: kv)) := by
          rw [upd_ne mx, upd_ne mx, upd_ne mx, upd_ne mx, upd_ne mdx]
          exact h2'
        have hx3 : (upd (upd (upd (upd (upd H' dx2 (.own x)) x (.ins CP dx2 [])) x (.ins CP dx2 [("name", .str "")])) x (.ins CP dx2 [("name", .str ""), ("back", .bl false)])) x (.ins CP dx2 (pF (.str "") (.bl false) (.ref m)))) x = some (.ins CP dx2 (pF (.str "") (.bl false) (.ref m))) := upd_same
        refine ⟨o, _, _, rfl, rfl, ho3, by show 0 < sizeLine; decide, ?_⟩
        generalize upd (upd (upd (upd (upd H' dx2 (.own x)) x (.ins CP dx2 [])) x (.ins CP dx2 [("name", .str "")])) x (.ins CP dx2 [("name", .str ""), ("back", .bl false)])) x (.ins CP dx2 (pF (.str "") (.bl false) (.ref m))) = H3 at s3 ho3 hm3 hx3 ⊢
        have om : m ≠ o := fun e' => by rw [e', ho3] at hm3; cases hm3
        refine ⟨_, _, rfl, mutS s3 no, .inr ⟨Nat.le_refl _, .inr ⟨by simp, x, s2.free nx, upd_same, ⟨dx2, by rw [upd_ne ox.symm]; exact hx3⟩, by rw [upd_ne om]; exact hm3⟩⟩⟩
    · rintro σ H' ⟨v3, v4, rfl, s2, hc⟩
      refine ⟨_, rfl, q o H' s2 no ?_⟩
      rcases hc with ⟨h, _⟩ | ⟨_, h⟩
      · cases h
      · exact h
end
theorem ringsOf_more {f : Nat → Nat} {n : Nat} (P : PermF f n) : RingsOf f n (rings f n ++ singles f n) where
  ne r h := by
    rcases List.mem_append.mp h with h | h
    · exact rings_ne P h
    · obtain ⟨x, _, rfl⟩ := List.mem_map.mp h
      intro z
      cases z
  nd := by
    rw [List.flatten_append, singles_flat]
    refine List.nodup_append.mpr ⟨rings_nodup P, List.Pairwise.filter _ List.nodup_range, fun a ha b hb e => ?_⟩
    have h1 := mem_rings_moves P ha
    have h2 := of_decide_eq_true (List.mem_filter.mp hb).2
    rw [e] at h1
    exact h1 h2
  lt x h := by
    rw [List.flatten_append, singles_flat] at h
    rcases List.mem_append.mp h with h | h
    · exact rings_lt P h
    · exact List.mem_range.mp (List.mem_filter.mp h).1
  fol r h := by
    rcases List.mem_append.mp h with h | h
    · exact rings_follow P h
    · obtain ⟨x, hx, rfl⟩ := List.mem_map.mp h
      exact follows_single (of_decide_eq_true (List.mem_filter.mp hx).2)
  stay x hx h := by
    rw [List.flatten_append] at h
    exact rings_stay P hx fun z => h (List.mem_append_left _ z)
theorem ringsOf_rot {f : Nat → Nat} {n : Nat} {rs : List (List Nat)} (R : RingsOf f n rs) (t : Nat) : RingsOf f n (rs.map fun r => rotl r (t % r.length)) := by
  have pm : (rs.map fun r => rotl r (t % r.length)).flatten.Perm rs.flatten := flatten_perm (List.length_map _) fun i a b h1 h2 => by
    rw [List.getElem?_map, h2] at h1
    cases h1
    exact rotl_perm b _
  exact {
    ne := fun r h => by
      obtain ⟨q, hq, rfl⟩ := List.mem_map.mp h
      have := List.length_pos_iff.mpr (R.ne q hq)
      intro z
      have l := rotl_len q (t % q.length)
      rw [z] at l
      simp at l
      omega
    nd := pm.nodup_iff.mpr R.nd
    lt := fun x h => R.lt x (pm.mem_iff.mp h)
    fol := fun r h => by
      obtain ⟨q, hq, rfl⟩ := List.mem_map.mp h
      exact follows_rotl (R.fol q hq) (Nat.le_of_lt (Nat.mod_lt _ (List.length_pos_iff.mpr (R.ne q hq))))
    stay := fun x hx h => R.stay x hx fun z => h (pm.mem_iff.mpr z) }
theorem ringsOf_rev {f : Nat → Nat} {n : Nat} {rs : List (List Nat)} (R : RingsOf f n rs) : RingsOf f n rs.reverse := by
  have pm : rs.reverse.flatten.Perm rs.flatten := (List.reverse_perm rs).flatten
  exact {
    ne := fun r h => R.ne r (List.mem_reverse.mp h)
    nd := pm.nodup_iff.mpr R.nd
    lt := fun x h => R.lt x (pm.mem_iff.mp h)
    fol := fun r h => R.fol r (List.mem_reverse.mp h)
    stay := fun x hx h => R.stay x hx fun z => h (pm.mem_iff.mpr z) }
theorem cutV_from (xs : List V) (n : Nat) : cutV xs (some (n : Int)) none = xs.drop n := by
  unfold cutV
  rw [HT.sIx_nat, HT.sIx_none]
  by_cases c : n ≤ xs.length
  · rw [Nat.min_eq_left c, List.take_of_length_le (by rw [List.length_drop]; exact Nat.le_refl _)]
  · rw [Nat.min_eq_right (by omega), List.drop_eq_nil_of_le (Nat.le_refl _), List.drop_eq_nil_of_le (by omega), List.take_nil]
theorem cutV_to (xs : List V) (n : Nat) : cutV xs none (some (n : Int)) = xs.take n := by
  unfold cutV
  rw [HT.sIx_nat, HT.sIx_none, List.drop_zero, Nat.sub_zero]
  by_cases c : n ≤ xs.length
  · rw [Nat.min_eq_left c]
  · rw [Nat.min_eq_right (by omega), List.take_of_length_le (Nat.le_refl _), List.take_of_length_le (by omega)]
/-- len of a list (or tuple) -/
def rLenS (K : PySem.W.Frag) : List V → Hp → VK → Prop := fun xs H Q => ∃ (p : Addr) (ys : List V), xs = [.ref p] ∧ (SqL K H p ys ∨ SqT K H p ys) ∧ Q (.int (ys.length : Nat)) H
section
variable {X : Cx}
theorem call_lenS : CallR X (.builtin "len") (rLenS X.K) := call_len_seq
end
theorem Rg.app {H : Hp} {as bs : List Addr} {rs ss : List (List Nat)} (g : Rg H as rs) (k : Rg H bs ss) : Rg H (as ++ bs) (rs ++ ss) := by
  refine ⟨by rw [List.length_append, List.length_append, g.len, k.len], fun i b q h1 h2 => ?_⟩
  by_cases c : i < as.length
  · rw [List.getElem?_append_left c] at h1
    rw [List.getElem?_append_left (by rw [← g.len]; exact c)] at h2
    exact g.at_ i b q h1 h2
  · rw [List.getElem?_append_right (by omega)] at h1
    rw [List.getElem?_append_right (by rw [← g.len]; omega), ← g.len] at h2
    exact k.at_ _ b q h1 h2
section
variable {P : Program} {w : World} {K : PySem.W.Frag} {mg : Str → Option Value} {base : Heap} {C : Addr}
/-! ### _law_told -/
abbrev s_l_told : Stmt := top 47
theorem sc_l_told : FnScope ["_law_images", "_law_with_single", "_law_turn", "_law_is_turned", "_law_rings_here", "_law_singles", "_law_ring", "_law_place", "_law_k"] ["_law_images", "_law_with_single", "_law_turn", "_law_is_turned"] (defScope s_l_told) := ⟨rfl, rfl, rfl, by decide +kernel, rfl, by decide +kernel, by decide +kernel⟩

def spTold (K : PySem.W.Frag) : Sp := fun vs H Q _ => ∃ (a : Addr) (im : List Nat) (s e : Bool) (t : Nat), vs = [.ref a, .bl s, nv t, .bl e] ∧ SqL K H a (im.map nv) ∧ IsPerm im ∧ im.length ≤ 60 ∧
  ∀ (o : Addr) (as : List Addr) (rs : List (List Nat)) (H' : Hp), Same H H' → H o = none → (∀ a ∈ as, H a = none) → H' o = some (.lst (as.map V.ref)) → Rg H' as rs → RingsOf (ap im) im.length rs → Q (.ref o) H'
theorem ok_l_told {f : Addr} {fd : FuncData} (F : Fun K "_law_told" "_law_told" s_l_told f fd) (T : Blt mg) (D_l_rings : DefOk P w K mg base CX0 1 "_law_rings" ["_law_images"] [] (spRings K)) : FnOk P w K mg base CX0 2 f fd ["_law_images", "_law_with_single", "_law_turn", "_law_is_turned"] (spTold K) := by
  refine F.ok sc_l_told (fun vs H Q E h => ?_) (fun cdv A outer s H vs Q E hr h => ?_)
  · obtain ⟨a, im, s, e, t, rfl, _⟩ := h; rfl
  · obtain ⟨a, im, sg, ed, t, rfl, hS, hI, hn, q⟩ := h
    have P := hI.perm
    refine ⟨_, (pss_cons (ps_set (i := 4) sc_l_told.nd rfl (.inr rfl) (pe_d D_l_rings hr pass0 (pa_cons (pv 0) pa_nil)))
    (pss_cons (ps_if (pt_truth (pv 1) (by intro _; rfl)) (pss_cons (ps_setLc (i := 5) (own := [("_law_place", 7)]) (tt := tTest (tOp rEq (tOp (rIxL K) (tVar 0) (tVar 7)) (tVar 7))) rfl sc_l_told.nd rfl rfl (sw_true rfl rfl rfl (by decide +kernel)) (pi_range1 (by rfl) T.range (pa_cons (pe_callB call_len_seq (by rfl) T.len PySem.boot_len (pa_cons (pv 0) pa_nil)) pa_nil)) (blkOk_by (N := ["_law_images", "_law_with_single", "_law_turn", "_law_is_turned", "_law_rings_here", "_law_singles", "_law_ring", "_law_place", "_law_k"]) (sc := defScope s_l_told) (by decide +kernel)) (fun _ _ _ _ _ => (pg_name (i := 7) sc_l_told.nd rfl (.inl rfl))) (fun _ _ _ _ _ => (by exact (pts_one (pt_cmpR op_eq (pe_ix ix_list (pv 0) (pv 7) (fun _ _ => rfl)) (pv 7) (nomark _))))) (fun _ _ _ _ _ => by exact (pe_lst (pa_cons (pv 7) pa_nil))))
    (pss_one (ps_set (i := 4) sc_l_told.nd rfl (.inr rfl) (pe_op op_cat (pv 4) (pv 5))))) pss_nil)
    (pss_cons (ps_set (i := 4) sc_l_told.nd rfl (.inr rfl) (pe_lc (own := [("_law_ring", 6)]) (tt := tYes) (te := tOp rCat (tSl (rSlL K) (tVar 6) (tPart (tOp (rI (fun _ j => 0 < j) fun i j => .int (i % j)) (tVar 2) (tCB (rLenS K) (tCons (tVar 6) tNil)))) tNoPart) (tSl (rSlL K) (tVar 6) tNoPart (tPart (tOp (rI (fun _ j => 0 < j) fun i j => .int (i % j)) (tVar 2) (tCB (rLenS K) (tCons (tVar 6) tNil)))))) rfl sc_l_told.nd (pi_list (pv 4)) (blkOk_by (N := ["_law_images", "_law_with_single", "_law_turn", "_law_is_turned", "_law_rings_here", "_law_singles", "_law_ring", "_law_place", "_law_k"]) (sc := defScope s_l_told) (by decide +kernel)) (fun _ _ _ _ _ => (pg_name (i := 6) sc_l_told.nd rfl (.inl rfl))) (fun _ _ _ _ _ => pts_nil) (fun _ _ _ _ _ => by exact (pe_op op_cat (pe_slice sl_list (pv 6) (po_some (pe_op op_mod (pv 2) (pe_callB call_lenS (by rfl) T.len PySem.boot_len (pa_cons (pv 6) pa_nil)))) po_none) (pe_slice sl_list (pv 6) po_none (po_some (pe_op op_mod (pv 2) (pe_callB call_lenS (by rfl) T.len PySem.boot_len (pa_cons (pv 6) pa_nil)))))))))
    (pss_cons (ps_if (pt_truth (pv 3) (by intro _; rfl)) (pss_one (ps_ret (pe_lc (own := [("_law_k", 8)]) (tt := tYes) (te := tOp (rIxL K) (tVar 4) (tOp (rI0 fun i j => .int (i - j)) (tOp (rI0 fun i j => .int (i - j)) (tCB (rLenS K) (tCons (tVar 4) tNil)) (tC (.int 1))) (tVar 8))) rfl sc_l_told.nd (pi_range1 (by rfl) T.range (pa_cons (pe_callB call_lenS (by rfl) T.len PySem.boot_len (pa_cons (pv 4) pa_nil)) pa_nil)) (blkOk_by (N := ["_law_images", "_law_with_single", "_law_turn", "_law_is_turned", "_law_rings_here", "_law_singles", "_law_ring", "_law_place", "_law_k"]) (sc := defScope s_l_told) (by decide +kernel)) (fun _ _ _ _ _ => (pg_name (i := 8) sc_l_told.nd rfl (.inl rfl))) (fun _ _ _ _ _ => pts_nil) (fun _ _ _ _ _ => by exact (pe_ix ix_list (pv 4) (pe_op op_sub (pe_op op_sub (pe_callB call_lenS (by rfl) T.len PySem.boot_len (pa_cons (pv 4) pa_nil)) pe_int) (pv 8)) (fun _ _ => rfl)))))) pss_nil)
    (pss_one (ps_ret (pv 4))))))), ?_⟩
    refine ⟨_, rfl, a, im, rfl, hS, hI, by omega, fun o as H1 s1 no nas hoa hnd ho hg => ?_⟩
    have s1' := s1
    cases sg with
    | false =>
      refine ⟨_, rfl, false, rfl, iteF ?_⟩
      have R := ringsOf_perm P
      have rl0 : (rings (ap im) im.length).length ≤ 1000 := by
        have := ringsTo_len (ap im) im.length im.length
        show (ringsTo _ _ _).length ≤ _
        omega
      have few := R.few
      have R2 := ringsOf_rot R t
      refine ⟨_, rfl, o, rfl, ⟨_, SqL.of ho⟩, fun D nD => ?_⟩
      refine lc_list (K := K) (a := o) (xs := as.map V.ref) (fun i H2 => ∃ bs : List Addr, Same H1 H2 ∧ H2 D = some (.lst (bs.map V.ref)) ∧ bs.length = i ∧ (∀ b ∈ bs, H b = none ∧ b ≠ D) ∧ Rg H2 bs (((rings (ap im) im.length).take i).map fun r => rotl r (t % r.length)))
        ⟨[], same_upd nD, upd_same, rfl, (by intro b h; cases h), Rg.nil⟩ (fun i H2 _ ⟨_, s, _⟩ => SqL.of (s _ _ ho)) ?_ ?_
      · rintro i y H2 hi ⟨bs, s2, hD, bl, bn, bg⟩
        obtain ⟨b, hb, rfl⟩ : ∃ b, as[i]? = some b ∧ y = V.ref b := by
          rw [List.getElem?_map] at hi
          cases e : as[i]? with
          | none => rw [e] at hi; cases hi
          | some b => rw [e] at hi; exact ⟨b, rfl, (Option.some.inj hi).symm⟩
        have hil : i < ((rings (ap im) im.length)).length := by rw [← hg.len]; exact (List.getElem?_eq_some_iff.mp hb).1
        obtain ⟨r, hr'⟩ : ∃ r, ((rings (ap im) im.length))[i]? = some r := ⟨_, List.getElem?_eq_getElem hil⟩
        have hbr := hg.at_ i b r hb hr'
        have rm := List.mem_of_getElem? hr'
        have r0 := List.length_pos_iff.mpr (R.ne r rm)
        have rl := mem_len rm
        have rsl : ((rings (ap im) im.length)).length ≤ 1000 := rl0
        have hB := SqL.of (K := K) (s2 _ _ hbr)
        have em : (t : Int) % ((r.map nv).length : Nat) = ((t % r.length : Nat) : Int) := by rw [List.length_map]; omega
        have tl : t % r.length ≤ r.length := Nat.le_of_lt (Nat.mod_lt _ r0)
        refine ⟨rfl, yesT ?_⟩
        refine ⟨_, rfl, _, rfl, _, rfl, b, _, rfl, .inl hB, _, _, rfl, rfl, (by show (0 : Int) < ((r.map nv).length : Nat); rw [List.length_map]; omega), _, rfl, b, _, rfl, hB, fun p1 np1 => ?_⟩
        rw [em, cutV_from]
        have hB1 := (same_upd (o := .lst ((r.map nv).drop (t % r.length))) np1).seq hB
        refine ⟨_, rfl, _, rfl, _, rfl, b, _, rfl, .inl hB1, _, _, rfl, rfl, (by show (0 : Int) < ((r.map nv).length : Nat); rw [List.length_map]; omega), _, rfl, b, _, rfl, hB1, fun p2 np2 => ?_⟩
        rw [em, cutV_to]
        have g1 := same_upd (o := .lst ((r.map nv).take (t % r.length))) np2 _ _ (show (upd H2 p1 (.lst ((r.map nv).drop (t % r.length)))) p1 = some _ from upd_same)
        refine ⟨p1, p2, _, _, rfl, rfl, g1, upd_same, small64 (by rw [List.length_drop, List.length_take, List.length_map]; omega) |> Nat.le_of_lt, fun p3 np3 => ?_⟩
        have sA : Same H2 (upd (upd (upd H2 p1 (.lst ((r.map nv).drop (t % r.length)))) p2 (.lst ((r.map nv).take (t % r.length)))) p3 (.lst ((r.map nv).drop (t % r.length) ++ (r.map nv).take (t % r.length)))) := ((same_upd np1).trans (same_upd np2)).trans (same_upd np3)
        have h3 : (upd (upd (upd H2 p1 (.lst ((r.map nv).drop (t % r.length)))) p2 (.lst ((r.map nv).take (t % r.length)))) p3 (.lst ((r.map nv).drop (t % r.length) ++ (r.map nv).take (t % r.length)))) p3 = some (.lst ((rotl r (t % r.length)).map nv)) := by
          rw [upd_same]
          unfold rotl
          rw [List.map_append, List.map_drop, List.map_take]
        have n3 : H2 p3 = none := ((same_upd np1).trans (same_upd np2)).free np3
        generalize upd (upd (upd H2 p1 (.lst ((r.map nv).drop (t % r.length)))) p2 (.lst ((r.map nv).take (t % r.length)))) p3 (.lst ((r.map nv).drop (t % r.length) ++ (r.map nv).take (t % r.length))) = H5 at sA h3 ⊢
        have nD0 : D ≠ p3 := ne_of_none hD n3
        refine ⟨_, sA _ _ hD, small64 (by rw [List.length_map]; omega), bs ++ [p3], mutS (s2.trans sA) nD, by rw [upd_same, List.map_append]; rfl, by rw [List.length_append, bl]; rfl, ?_, ?_⟩
        · intro b' hb'
          rcases List.mem_append.mp hb' with h | h
          · exact bn b' h
          · rw [List.mem_singleton.mp h]
            exact ⟨s1.free (s2.free n3), nD0.symm⟩
        · rw [List.take_add_one, hr', List.map_append]
          refine Rg.upd (Rg.snoc (bg.mono sA) h3) fun hm => ?_
          rcases List.mem_append.mp hm with h | h
          · exact (bn D h).2 rfl
          · exact nD0 (List.mem_singleton.mp h)
      · rintro H2 ⟨bs, s2, hD, bl, bn, bg⟩
        rw [List.length_map, hg.len, List.take_length] at bg
        have sH := s1.trans s2
        cases ed with
        | false => exact ⟨_, rfl, false, rfl, iteF ⟨_, rfl, q D bs _ H2 sH (s1.free nD) (fun b hb => (bn b hb).1) hD bg R2⟩⟩
        | true =>
          refine ⟨_, rfl, true, rfl, iteT ?_⟩
          have bl2 : bs.length ≤ 1000 := by rw [bg.len, List.length_map]; exact rl0
          refine ⟨_, rfl, D, _, rfl, .inl (SqL.of hD), _, rfl, by omega, by rw [List.length_map]; omega, fun D2 nD2 => ?_⟩
          rw [Int.toNat_natCast, List.length_map]
          refine lc_range (lo := 0) (n := bs.length) (fun i H3 => Same H2 H3 ∧ H3 D2 = some (.lst ((bs.reverse.take i).map V.ref))) ⟨same_upd nD2, upd_same⟩ ?_ ?_
          · rintro i H3 hi ⟨s3, h3⟩
            rw [Int.zero_add]
            refine ⟨rfl, yesT ?_⟩
            have hD3 := s3 _ _ hD
            have eb : bs.reverse[i]? = bs[bs.length - 1 - i]? := List.getElem?_reverse hi
            obtain ⟨b, hb⟩ : ∃ b, bs[bs.length - 1 - i]? = some b := ⟨_, List.getElem?_eq_getElem (by omega)⟩
            have ei : (((bs.map V.ref).length : Nat) : Int) - 1 - (i : Int) = ((bs.length - 1 - i : Nat) : Int) := by rw [List.length_map]; omega
            refine ⟨_, rfl, _, rfl, D, _, rfl, .inl (SqL.of hD3), _, _, rfl, rfl, _, rfl, _, _, rfl, rfl, D, _, _, V.ref b, rfl, rfl, SqL.of hD3, ?_, _, h3, small64 (by rw [List.length_map, List.length_take]; omega), mutS s3 nD2, ?_⟩
            · rw [ei]
              exact atI_nat (by rw [List.getElem?_map, hb]; rfl)
            · rw [upd_same, List.take_add_one, eb, hb, List.map_append]
              rfl
          · rintro H3 ⟨s3, h3⟩
            rw [List.take_of_length_le (by rw [List.length_reverse]; exact Nat.le_refl _)] at h3
            have bgr : Rg H3 bs.reverse ((rings (ap im) im.length).map fun r => rotl r (t % r.length)).reverse := by
              refine ⟨by rw [List.length_reverse, List.length_reverse, bg.len], fun i b r h1 h2 => ?_⟩
              have hi : i < bs.length := by
                have := (List.getElem?_eq_some_iff.mp h1).1
                rw [List.length_reverse] at this
                exact this
              rw [List.getElem?_reverse hi] at h1
              rw [List.getElem?_reverse (by rw [← bg.len]; exact hi), ← bg.len] at h2
              exact s3 _ _ (bg.at_ _ b r h1 h2)
            exact q D2 bs.reverse _ H3 (sH.trans s3) (sH.free nD2) (fun b hb => (bn b (List.mem_reverse.mp hb)).1) h3 bgr (ringsOf_rev R2)
    | true =>
      refine ⟨_, rfl, true, rfl, iteT ?_⟩
      have hS1 := s1.seq hS
      refine ⟨_, rfl, a, _, rfl, .inl hS1, _, rfl, by omega, by rw [List.length_map]; omega, fun E nE => ?_⟩
      rw [Int.toNat_natCast, List.length_map]
      refine lc_range (lo := 0) (n := im.length) (fun i H2 => ∃ ss : List Addr, Same H1 H2 ∧ H2 E = some (.lst (ss.map V.ref)) ∧ (∀ b ∈ ss, H b = none ∧ b ≠ E) ∧ Rg H2 ss (((List.range i).filter fun x => decide (ap im x = x)).map fun x => [x]))
        ⟨[], same_upd nE, upd_same, (by intro b h; cases h), Rg.nil⟩ ?_ ?_
      · rintro i H2 hi ⟨ss, s2, hE, sn, sg2⟩
        rw [Int.zero_add]
        refine ⟨rfl, ?_⟩
        refine ⟨_, rfl, _, rfl, a, _, _, _, rfl, rfl, s2.seq hS1, atI_nat (nv_get (ap_get hi)), _, rfl, rfl, _, rfl, ?_⟩
        have e3 : decide (nv (ap im i) = V.int (i : Nat)) = decide (ap im i = i) := dec_nv _ _
        rw [e3]
        by_cases c : ap im i = i
        · refine decT c ⟨_, rfl, by show 1 ≤ sizeLine; decide, fun p1 np1 => ?_⟩
          have Ep : E ≠ p1 := ne_of_none hE np1
          have sl : ss.length ≤ i := by
            rw [sg2.len, List.length_map]
            exact Nat.le_trans (List.length_filter_le _ _) (by rw [List.length_range]; exact Nat.le_refl _)
          refine ⟨_, same_upd np1 _ _ hE, small64 (by rw [List.length_map]; omega), ss ++ [p1], mutS (s2.trans (same_upd np1)) nE, by rw [upd_same, List.map_append]; rfl, ?_, ?_⟩
          · intro b' hb'
            rcases List.mem_append.mp hb' with h | h
            · exact sn b' h
            · rw [List.mem_singleton.mp h]
              exact ⟨s1.free (s2.free np1), Ep.symm⟩
          · rw [List.range_succ, List.filter_append, List.filter_cons_of_pos (by rw [decide_eq_true c]), List.filter_nil, List.map_append]
            refine Rg.upd (Rg.snoc (r := [i]) (sg2.mono (same_upd np1)) (show _ = some (HO.lst ([i].map nv)) from upd_same)) fun hm => ?_
            rcases List.mem_append.mp hm with h | h
            · exact (sn E h).2 rfl
            · exact Ep (List.mem_singleton.mp h)
        · refine decF c ⟨ss, s2, hE, sn, ?_⟩
          rw [List.range_succ, List.filter_append, List.filter_cons_of_neg (by rw [decide_eq_false c]; decide), List.filter_nil, List.append_nil]
          exact sg2
      · rintro H2 ⟨ss, s2, hE, sn, sg2⟩
        have hss : Rg H2 ss (singles (ap im) im.length) := sg2
        have tot := rings_total P
        have Rm := ringsOf_more P
        have lm : (rings (ap im) im.length ++ singles (ap im) im.length).length ≤ 1000 := by
          have := ringsTo_len (ap im) im.length im.length
          have a1 : (rings (ap im) im.length).length ≤ im.length := this
          have a2 : (singles (ap im) im.length).length ≤ im.length := by
            unfold singles
            rw [List.length_map]
            exact Nat.le_trans (List.length_filter_le _ _) (by rw [List.length_range]; exact Nat.le_refl _)
          rw [List.length_append]
          omega
        have ho0 := s2 _ _ ho
        have l1 : as.length ≤ 1000 := by rw [hg.len]; rw [List.length_append] at lm; omega
        have l2 : ss.length ≤ 1000 := by rw [hss.len]; rw [List.length_append] at lm; omega
        refine ⟨_, rfl, _, rfl, o, E, _, _, rfl, rfl, ho0, hE, Nat.le_of_lt (small64 (by rw [List.length_map, List.length_map]; omega)), fun o2 no2 => ?_⟩
        have hcn : ((upd H2 o2 (.lst (as.map V.ref ++ ss.map V.ref))) o2) = some (.lst ((as ++ ss).map V.ref)) := by rw [upd_same, List.map_append]
        have sc2 := same_upd (o := .lst (as.map V.ref ++ ss.map V.ref)) no2
        have hgm := Rg.app ((hg.mono s2).mono sc2) (hss.mono sc2)
        have sc := (s1.trans s2).trans sc2
        have ho2 := hcn
        generalize upd H2 o2 (.lst (as.map V.ref ++ ss.map V.ref)) = Hc at ho2 sc hgm ⊢
        have rl1 := lm
        have few := Rm.few
        have R2 := ringsOf_rot Rm t
        refine ⟨_, rfl, o2, rfl, ⟨_, SqL.of ho2⟩, fun D nD => ?_⟩
        refine lc_list (K := K) (a := o2) (xs := (as ++ ss).map V.ref) (fun i H2 => ∃ bs : List Addr, Same Hc H2 ∧ H2 D = some (.lst (bs.map V.ref)) ∧ bs.length = i ∧ (∀ b ∈ bs, H b = none ∧ b ≠ D) ∧ Rg H2 bs (((rings (ap im) im.length ++ singles (ap im) im.length).take i).map fun r => rotl r (t % r.length)))
          ⟨[], same_upd nD, upd_same, rfl, (by intro b h; cases h), Rg.nil⟩ (fun i H2 _ ⟨_, s, _⟩ => SqL.of (s _ _ ho2)) ?_ ?_
        · rintro i y H2 hi ⟨bs, s2, hD, bl, bn, bg⟩
          obtain ⟨b, hb, rfl⟩ : ∃ b, (as ++ ss)[i]? = some b ∧ y = V.ref b := by
            rw [List.getElem?_map] at hi
            cases e : (as ++ ss)[i]? with
            | none => rw [e] at hi; cases hi
            | some b => rw [e] at hi; exact ⟨b, rfl, (Option.some.inj hi).symm⟩
          have hil : i < ((rings (ap im) im.length ++ singles (ap im) im.length)).length := by rw [← hgm.len]; exact (List.getElem?_eq_some_iff.mp hb).1
          obtain ⟨r, hr'⟩ : ∃ r, ((rings (ap im) im.length ++ singles (ap im) im.length))[i]? = some r := ⟨_, List.getElem?_eq_getElem hil⟩
          have hbr := hgm.at_ i b r hb hr'
          have rm := List.mem_of_getElem? hr'
          have r0 := List.length_pos_iff.mpr (Rm.ne r rm)
          have rl := mem_len rm
          have rsl : ((rings (ap im) im.length ++ singles (ap im) im.length)).length ≤ 1000 := rl1
          have hB := SqL.of (K := K) (s2 _ _ hbr)
          have em : (t : Int) % ((r.map nv).length : Nat) = ((t % r.length : Nat) : Int) := by rw [List.length_map]; omega
          have tl : t % r.length ≤ r.length := Nat.le_of_lt (Nat.mod_lt _ r0)
          refine ⟨rfl, yesT ?_⟩
          refine ⟨_, rfl, _, rfl, _, rfl, b, _, rfl, .inl hB, _, _, rfl, rfl, (by show (0 : Int) < ((r.map nv).length : Nat); rw [List.length_map]; omega), _, rfl, b, _, rfl, hB, fun p1 np1 => ?_⟩
          rw [em, cutV_from]
          have hB1 := (same_upd (o := .lst ((r.map nv).drop (t % r.length))) np1).seq hB
          refine ⟨_, rfl, _, rfl, _, rfl, b, _, rfl, .inl hB1, _, _, rfl, rfl, (by show (0 : Int) < ((r.map nv).length : Nat); rw [List.length_map]; omega), _, rfl, b, _, rfl, hB1, fun p2 np2 => ?_⟩
          rw [em, cutV_to]
          have g1 := same_upd (o := .lst ((r.map nv).take (t % r.length))) np2 _ _ (show (upd H2 p1 (.lst ((r.map nv).drop (t % r.length)))) p1 = some _ from upd_same)
          refine ⟨p1, p2, _, _, rfl, rfl, g1, upd_same, small64 (by rw [List.length_drop, List.length_take, List.length_map]; omega) |> Nat.le_of_lt, fun p3 np3 => ?_⟩
          have sA : Same H2 (upd (upd (upd H2 p1 (.lst ((r.map nv).drop (t % r.length)))) p2 (.lst ((r.map nv).take (t % r.length)))) p3 (.lst ((r.map nv).drop (t % r.length) ++ (r.map nv).take (t % r.length)))) := ((same_upd np1).trans (same_upd np2)).trans (same_upd np3)
          have h3 : (upd (upd (upd H2 p1 (.lst ((r.map nv).drop (t % r.length)))) p2 (.lst ((r.map nv).take (t % r.length)))) p3 (.lst ((r.map nv).drop (t % r.length) ++ (r.map nv).take (t % r.length)))) p3 = some (.lst ((rotl r (t % r.length)).map nv)) := by
            rw [upd_same]
            unfold rotl
            rw [List.map_append, List.map_drop, List.map_take]
          have n3 : H2 p3 = none := ((same_upd np1).trans (same_upd np2)).free np3
          generalize upd (upd (upd H2 p1 (.lst ((r.map nv).drop (t % r.length)))) p2 (.lst ((r.map nv).take (t % r.length)))) p3 (.lst ((r.map nv).drop (t % r.length) ++ (r.map nv).take (t % r.length))) = H5 at sA h3 ⊢
          have nD0 : D ≠ p3 := ne_of_none hD n3
          refine ⟨_, sA _ _ hD, small64 (by rw [List.length_map]; omega), bs ++ [p3], mutS (s2.trans sA) nD, by rw [upd_same, List.map_append]; rfl, by rw [List.length_append, bl]; rfl, ?_, ?_⟩
          · intro b' hb'
            rcases List.mem_append.mp hb' with h | h
            · exact bn b' h
            · rw [List.mem_singleton.mp h]
              exact ⟨sc.free (s2.free n3), nD0.symm⟩
          · rw [List.take_add_one, hr', List.map_append]
            refine Rg.upd (Rg.snoc (bg.mono sA) h3) fun hm => ?_
            rcases List.mem_append.mp hm with h | h
            · exact (bn D h).2 rfl
            · exact nD0 (List.mem_singleton.mp h)
        · rintro H2 ⟨bs, s2, hD, bl, bn, bg⟩
          rw [List.length_map, hgm.len, List.take_length] at bg
          have sH := sc.trans s2
          cases ed with
          | false => exact ⟨_, rfl, false, rfl, iteF ⟨_, rfl, q D bs _ H2 sH (sc.free nD) (fun b hb => (bn b hb).1) hD bg R2⟩⟩
          | true =>
            refine ⟨_, rfl, true, rfl, iteT ?_⟩
            have bl2 : bs.length ≤ 1000 := by rw [bg.len, List.length_map]; exact rl1
            refine ⟨_, rfl, D, _, rfl, .inl (SqL.of hD), _, rfl, by omega, by rw [List.length_map]; omega, fun D2 nD2 => ?_⟩
            rw [Int.toNat_natCast, List.length_map]
            refine lc_range (lo := 0) (n := bs.length) (fun i H3 => Same H2 H3 ∧ H3 D2 = some (.lst ((bs.reverse.take i).map V.ref))) ⟨same_upd nD2, upd_same⟩ ?_ ?_
            · rintro i H3 hi ⟨s3, h3⟩
              rw [Int.zero_add]
              refine ⟨rfl, yesT ?_⟩
              have hD3 := s3 _ _ hD
              have eb : bs.reverse[i]? = bs[bs.length - 1 - i]? := List.getElem?_reverse hi
              obtain ⟨b, hb⟩ : ∃ b, bs[bs.length - 1 - i]? = some b := ⟨_, List.getElem?_eq_getElem (by omega)⟩
              have ei : (((bs.map V.ref).length : Nat) : Int) - 1 - (i : Int) = ((bs.length - 1 - i : Nat) : Int) := by rw [List.length_map]; omega
              refine ⟨_, rfl, _, rfl, D, _, rfl, .inl (SqL.of hD3), _, _, rfl, rfl, _, rfl, _, _, rfl, rfl, D, _, _, V.ref b, rfl, rfl, SqL.of hD3, ?_, _, h3, small64 (by rw [List.length_map, List.length_take]; omega), mutS s3 nD2, ?_⟩
              · rw [ei]
                exact atI_nat (by rw [List.getElem?_map, hb]; rfl)
              · rw [upd_same, List.take_add_one, eb, hb, List.map_append]
                rfl
            · rintro H3 ⟨s3, h3⟩
              rw [List.take_of_length_le (by rw [List.length_reverse]; exact Nat.le_refl _)] at h3
              have bgr : Rg H3 bs.reverse ((rings (ap im) im.length ++ singles (ap im) im.length).map fun r => rotl r (t % r.length)).reverse := by
                refine ⟨by rw [List.length_reverse, List.length_reverse, bg.len], fun i b r h1 h2 => ?_⟩
                have hi : i < bs.length := by
                  have := (List.getElem?_eq_some_iff.mp h1).1
                  rw [List.length_reverse] at this
                  exact this
                rw [List.getElem?_reverse hi] at h1
                rw [List.getElem?_reverse (by rw [← bg.len]; exact hi), ← bg.len] at h2
                exact s3 _ _ (bg.at_ _ b r h1 h2)
              exact q D2 bs.reverse _ H3 (sH.trans s3) (sH.free nD2) (fun b hb => (bn b (List.mem_reverse.mp hb)).1) h3 bgr (ringsOf_rev R2)
end
/-! ### rings of which one is none -/
def toI (r : List Nat) : List Int := r.map fun (x : Nat) => (x : Int)
theorem toI_flat (rs : List (List Nat)) : (rs.map toI).flatten = toI rs.flatten := by
  unfold toI
  rw [List.map_flatten]
theorem toI_nodup {l : List Nat} (h : l.Nodup) : (toI l).Nodup := by
  unfold toI
  exact List.Pairwise.map _ (fun a b e z => e (by omega)) h
theorem toI_mem {l : List Nat} {x : Int} : x ∈ toI l ↔ ∃ y, y ∈ l ∧ x = (y : Int) := by
  unfold toI
  rw [List.mem_map]
  exact ⟨fun ⟨y, h, e⟩ => ⟨y, h, e.symm⟩, fun ⟨y, h, e⟩ => ⟨y, h, e.symm⟩⟩
theorem take_flat_sub {rs : List (List Nat)} (i : Nat) : ∃ t, rs.flatten = (rs.take i).flatten ++ t := ⟨(rs.drop i).flatten, by rw [← List.flatten_append, List.take_append_drop]⟩
/-- good rings, then one that is none, then whatever -/
theorem bad_ins {f : Nat → Nat} {n : Nat} {rs : List (List Nat)} (R : RingsOf f n rs) {i : Nat} (hi : i ≤ rs.length) {b : List Int} {more : List (List Int)} (few : ((rs.take i).map toI ++ b :: more).flatten.length ≤ 1000)
    (hb : b = [] ∨ ∃ (q : List Int) (x : Int) (r : List Int), b = q ++ x :: r ∧ (toI (rs.take i).flatten ++ q).Nodup ∧ (∀ y ∈ q, 0 ≤ y ∧ InSz (nv n) y) ∧ (x < 0 ∨ x ∈ toI (rs.take i).flatten ++ q ∨ ¬ InSz (nv n) x)) :
    BadAt (nv n) ((rs.take i).map toI ++ b :: more) i := by
  have lt : ((rs.take i).map toI).length = i := by rw [List.length_map, List.length_take]; omega
  have tk : ((rs.take i).map toI ++ b :: more).take i = (rs.take i).map toI := by
    rw [List.take_append_of_le_length (by omega), List.take_of_length_le (by omega)]
  obtain ⟨t, ht⟩ := take_flat_sub (rs := rs) i
  have nd := R.nd
  rw [ht] at nd
  refine ⟨.inr ⟨n, rfl⟩, fun k r hk hr => ?_, ?_, ?_, few, b, ?_, ?_⟩
  · rw [List.getElem?_append_left (by omega), List.getElem?_map] at hr
    cases e : (rs.take i)[k]? with
    | none => rw [e] at hr; cases hr
    | some q =>
      rw [e] at hr
      have hq := List.mem_of_mem_take (List.mem_of_getElem? e)
      have h0 := R.ne q hq
      have er : r = toI q := (Option.some.inj hr).symm
      rw [er]
      intro z
      unfold toI at z
      exact h0 (List.map_eq_nil_iff.mp z)
  · rw [tk, toI_flat]
    exact toI_nodup (List.nodup_append.mp nd).1
  · rw [tk, toI_flat]
    intro x hx
    obtain ⟨y, hy, rfl⟩ := toI_mem.mp hx
    have := R.lt y (by rw [ht]; exact List.mem_append_left _ hy)
    exact ⟨by omega, .inr ⟨n, rfl, by omega⟩⟩
  · rw [List.getElem?_append_right (by omega), lt, Nat.sub_self]
    rfl
  · rw [tk, toI_flat]
    exact hb
/-! ### rings taken apart and put together -/
theorem RgI.mono {H H' : Hp} {as : List Addr} {rs : List (List Int)} (g : RgI H as rs) (s : Same H H') : RgI H' as rs := ⟨g.1, fun i b r h1 h2 => s _ _ (g.2 i b r h1 h2)⟩
theorem RgI.app {H : Hp} {as bs : List Addr} {rs ss : List (List Int)} (g : RgI H as rs) (k : RgI H bs ss) : RgI H (as ++ bs) (rs ++ ss) := by
  refine ⟨by rw [List.length_append, List.length_append, g.1, k.1], fun i b q h1 h2 => ?_⟩
  by_cases c : i < as.length
  · rw [List.getElem?_append_left c] at h1
    rw [List.getElem?_append_left (by rw [← g.1]; exact c)] at h2
    exact g.2 i b q h1 h2
  · rw [List.getElem?_append_right (by omega)] at h1
    rw [List.getElem?_append_right (by rw [← g.1]; omega), ← g.1] at h2
    exact k.2 _ b q h1 h2
theorem RgI.one {H : Hp} {b : Addr} {r : List Int} (h : H b = some (.lst (r.map V.int))) : RgI H [b] [r] := ⟨rfl, fun i b' r' h1 h2 => by
  cases i with
  | zero => cases h1; cases h2; exact h
  | succ i => cases h1⟩
theorem toI_nv (r : List Nat) : (toI r).map V.int = r.map nv := by
  unfold toI
  rw [List.map_map]
  rfl
theorem Rg.ints {H : Hp} {as : List Addr} {rs : List (List Nat)} (g : Rg H as rs) : RgI H as (rs.map toI) := by
  refine ⟨by rw [List.length_map]; exact g.len, fun i b r h1 h2 => ?_⟩
  rw [List.getElem?_map] at h2
  cases e : rs[i]? with
  | none => rw [e] at h2; cases h2
  | some q =>
    rw [e] at h2
    have er : r = toI q := (Option.some.inj h2).symm
    rw [er, toI_nv]
    exact g.at_ i b q h1 e
theorem Rg.take {H : Hp} {as : List Addr} {rs : List (List Nat)} (g : Rg H as rs) (n : Nat) : Rg H (as.take n) (rs.take n) := by
  refine ⟨by rw [List.length_take, List.length_take, g.len], fun i b r h1 h2 => ?_⟩
  rw [List.getElem?_take] at h1 h2
  by_cases c : i < n
  · rw [if_pos c] at h1 h2
    exact g.at_ i b r h1 h2
  · rw [if_neg c] at h1
    cases h1
theorem Rg.drop {H : Hp} {as : List Addr} {rs : List (List Nat)} (g : Rg H as rs) (n : Nat) : Rg H (as.drop n) (rs.drop n) := by
  refine ⟨by rw [List.length_drop, List.length_drop, g.len], fun i b r h1 h2 => ?_⟩
  rw [List.getElem?_drop] at h1 h2
  exact g.at_ _ b r h1 h2
theorem Rg.ins {H : Hp} {as : List Addr} {rs : List (List Nat)} (g : Rg H as rs) {b : Addr} {r : List Int} (h : H b = some (.lst (r.map V.int))) (i j : Nat) :
    RgI H (as.take i ++ b :: as.drop j) ((rs.take i).map toI ++ r :: (rs.drop j).map toI) :=
  (g.take i).ints.app ((RgI.one h).app (g.drop j).ints)
theorem ins_flat {rs : List (List Nat)} (i j : Nat) (h : i ≤ j) (b : List Int) : ((rs.take i).map toI ++ b :: (rs.drop j).map toI).flatten.length ≤ rs.flatten.length + b.length := by
  have e : rs.flatten.length = (rs.take i).flatten.length + ((rs.drop i).take (j - i)).flatten.length + (rs.drop j).flatten.length := by
    have e1 : rs.drop j = (rs.drop i).drop (j - i) := by rw [List.drop_drop]; congr 1; omega
    have e2 : rs.flatten = (rs.take i).flatten ++ (((rs.drop i).take (j - i)).flatten ++ (rs.drop j).flatten) := by
      rw [e1, ← List.flatten_append, List.take_append_drop, ← List.flatten_append, List.take_append_drop]
    rw [e2, List.length_append, List.length_append]
    omega
  have l : ∀ qs : List (List Nat), (qs.map toI).flatten.length = qs.flatten.length := fun qs => by
    rw [toI_flat]
    unfold toI
    rw [List.length_map]
  rw [List.flatten_append, List.flatten_cons, List.length_append, List.length_append, l, l]
  omega
theorem len_flat_ge {rs : List (List Nat)} (h : ∀ r ∈ rs, r ≠ []) : rs.length ≤ rs.flatten.length := by
  induction rs with
  | nil => exact Nat.le_refl _
  | cons r rs ih =>
    have h1 := List.length_pos_iff.mpr (h r List.mem_cons_self)
    have h2 := ih fun q hq => h q (List.mem_cons_of_mem _ hq)
    rw [List.length_cons, List.flatten_cons, List.length_append]
    omega
theorem eqRs0 (rs : List (List Nat)) : PyData.eqv (.list (rs.map dR)) (.list []) = decide (rs = []) := by
  rw [PyData.eqv]
  cases rs with
  | nil => rfl
  | cons r rs => rfl
section
variable {P : Program} {w : World} {K : PySem.W.Frag} {mg : Str → Option Value} {base : Heap} {C : Addr}
/-! ### _law_fault -/
abbrev s_l_fault : Stmt := top 48
theorem sc_l_fault : FnScope ["_law_rings_here", "_law_size_here", "_law_kind", "_law_at", "_law_more", "_law_longer"] ["_law_rings_here", "_law_size_here", "_law_kind", "_law_at", "_law_more"] (defScope s_l_fault) := ⟨rfl, rfl, rfl, by decide +kernel, rfl, by decide +kernel, by decide +kernel⟩

def spFault (K : PySem.W.Frag) : Sp := fun vs H Q _ => ∃ (a : Addr) (n kd t m : Nat) (f : Nat → Nat) (as : List Addr) (rs : List (List Nat)), vs = [.ref a, nv n, nv kd, nv t, nv m] ∧ H a = some (.lst (as.map V.ref)) ∧ Rg H as rs ∧ RingsOf f n rs ∧ 1 ≤ n ∧ n ≤ 60 ∧
  ∀ (T o : Addr) (bs : List Addr) (qs : List (List Int)) (j : Nat) (H' : Hp), Same H H' → H' T = some (.tup [.ref o, nv j]) → SqL K H' o (bs.map V.ref) → RgI H' bs qs → BadAt (nv n) qs j → Q (.ref T) H'
theorem ok_l_fault {f : Addr} {fd : FuncData} (F : Fun K "_law_fault" "_law_fault" s_l_fault f fd) (T : Blt mg) : FnOk P w K mg base CX0 1 f fd ["_law_rings_here", "_law_size_here", "_law_kind", "_law_at", "_law_more"] (spFault K) := by
  refine F.ok sc_l_fault (fun vs H Q E h => ?_) (fun cdv A outer s H vs Q E hr h => ?_)
  · obtain ⟨a, n, kd, t, m, f, as, rs, rfl, _⟩ := h; rfl
  · obtain ⟨a, n, kd, t, m, fp, as, rs, rfl, ha, hg, R, n1, n2, q⟩ := h
    have hu2 : (A.deeper (envOfC "_law_fault" (defScope s_l_fault) s.heap.objs.size f cdv)).units + 64 < cLine := by have := hr.un; omega
    have hS : SqL K H a (as.map V.ref) := SqL.of ha
    have few := R.few
    have fl : rs.length ≤ 60 := by
      have : rs.length ≤ rs.flatten.length := len_flat_ge R.ne
      omega
    have al : as.length = rs.length := hg.len
    refine ⟨_, (pss_cons (ps_set (i := 3) sc_l_fault.nd rfl (.inl rfl) (pe_op op_mod (pv 3) (pe_op op_add (pe_callB call_lenS (by rfl) T.len PySem.boot_len (pa_cons (pv 0) pa_nil)) pe_int)))
    (pss_cons (ps_if (pt_cmpR op_eq (pv 2) pe_int (nomark _)) (pss_one (ps_ret (pe_tup (pa_cons (pe_op op_cat (pe_op op_cat (pe_slice sl_list (pv 0) po_none (po_some (pv 3))) (pe_lst (pa_cons (pe_lst pa_nil) pa_nil))) (pe_slice sl_list (pv 0) (po_some (pv 3)) po_none)) (pa_cons (pv 3) pa_nil))))) pss_nil)
    (pss_cons (ps_if (pt_cmpR op_eq (pv 2) pe_int (nomark _)) (pss_one (ps_ret (pe_tup (pa_cons (pe_op op_cat (pe_op op_cat (pe_slice sl_list (pv 0) po_none (po_some (pv 3))) (pe_lst (pa_cons (pe_lst (pa_cons (pe_op op_add (pv 1) (pv 4)) pa_nil)) pa_nil))) (pe_slice sl_list (pv 0) (po_some (pv 3)) po_none)) (pa_cons (pv 3) pa_nil))))) pss_nil)
    (pss_cons (ps_if (pt_cmpR op_eq (pv 2) pe_int (nomark _)) (pss_one (ps_ret (pe_tup (pa_cons (pe_op op_cat (pe_op op_cat (pe_slice sl_list (pv 0) po_none (po_some (pv 3))) (pe_lst (pa_cons (pe_lst (pa_cons (pe_op op_sub (pe_un un_neg pe_int) (pv 4)) pa_nil)) pa_nil))) (pe_slice sl_list (pv 0) (po_some (pv 3)) po_none)) (pa_cons (pv 3) pa_nil))))) pss_nil)
    (pss_cons (ps_if (pt_cmpR (op_eqD hu2) (pv 0) (pe_lst pa_nil) (nomark _)) (pss_one (ps_ret (pe_tup (pa_cons (pe_lst (pa_cons (pe_lst (pa_cons pe_int (pa_cons pe_int pa_nil))) pa_nil)) (pa_cons pe_int pa_nil))))) pss_nil)
    (pss_cons (ps_set (i := 3) sc_l_fault.nd rfl (.inl rfl) (pe_op op_mod (pv 3) (pe_callB call_lenS (by rfl) T.len PySem.boot_len (pa_cons (pv 0) pa_nil))))
    (pss_cons (ps_if (pt_cmpR op_eq (pv 2) pe_int (nomark _)) (pss_cons (ps_set (i := 5) sc_l_fault.nd rfl (.inl rfl) (pe_op op_cat (pe_ix ix_list (pv 0) (pv 3) (fun _ _ => rfl)) (pe_lst (pa_cons (pe_ix ix_list (pe_ix ix_list (pv 0) (pv 3) (fun _ _ => rfl)) pe_int (fun _ _ => rfl)) pa_nil))))
    (pss_one (ps_ret (pe_tup (pa_cons (pe_op op_cat (pe_op op_cat (pe_slice sl_list (pv 0) po_none (po_some (pv 3))) (pe_lst (pa_cons (pv 5) pa_nil))) (pe_slice sl_list (pv 0) (po_some (pe_op op_add (pv 3) pe_int)) po_none)) (pa_cons (pv 3) pa_nil)))))) pss_nil)
    (pss_one (ps_ret (pe_tup (pa_cons (pe_op op_cat (pv 0) (pe_lst (pa_cons (pe_lst (pa_cons (pe_ix ix_list (pe_ix ix_list (pv 0) (pv 3) (fun _ _ => rfl)) (pe_un un_neg pe_int) (fun _ _ => rfl)) pa_nil)) pa_nil))) (pa_cons (pe_callB call_lenS (by rfl) T.len PySem.boot_len (pa_cons (pv 0) pa_nil)) pa_nil)))))))))))), ?_⟩
    refine ⟨_, rfl, _, rfl, a, _, rfl, .inl hS, _, _, rfl, rfl, _, _, rfl, rfl, (by rw [List.length_map]; omega), ?_⟩
    have em : (t : Int) % (((as.map V.ref).length : Nat) + 1) = ((t % (rs.length + 1) : Nat) : Int) := by rw [List.length_map, al]; rfl
    obtain ⟨i, hi⟩ : ∃ i, i = t % (rs.length + 1) := ⟨_, rfl⟩
    have il : i ≤ rs.length := by
      have := Nat.mod_lt t (show 0 < rs.length + 1 by omega)
      omega
    rw [← hi] at em
    refine ⟨_, rfl, rfl, _, rfl, ?_⟩
    have e0 : decide (nv kd = V.int 0) = decide (kd = 0) := dec_nv kd 0
    rw [e0]
    by_cases c0 : kd = 0
    · refine decT c0 ?_
      refine ⟨_, rfl, _, rfl, _, rfl, a, _, rfl, hS, fun p1 np1 => ?_⟩
      rw [em, cutV_to, ← List.map_take]
      have s1 := same_upd (o := .lst ((as.take i).map V.ref)) np1
      have h1 : (upd H p1 (.lst ((as.take i).map V.ref))) p1 = some (.lst ((as.take i).map V.ref)) := upd_same
      generalize upd H p1 (.lst ((as.take i).map V.ref)) = H1 at s1 h1 ⊢
      refine ⟨Nat.zero_le _, fun p2 np2 => ?_⟩
      have h2 : (upd H1 p2 (.lst [])) p2 = some (.lst []) := upd_same
      have s2 := s1.trans (same_upd (o := .lst []) np2)
      have h12 := same_upd (o := .lst []) np2 _ _ h1
      clear np2
      generalize upd H1 p2 (.lst []) = H2 at s2 h2 h12 ⊢
      refine ⟨by show 1 ≤ sizeLine; decide, fun p3 np3 => ?_⟩
      have s3 := same_upd (o := .lst [.ref p2]) np3
      have h13 := s3 _ _ h12
      have h23 := s3 _ _ h2
      have h33 : (upd H2 p3 (.lst [.ref p2])) p3 = some (.lst [.ref p2]) := upd_same
      have s3 := s2.trans s3
      clear np3
      generalize upd H2 p3 (.lst [.ref p2]) = H3 at s3 h13 h23 h33 ⊢
      refine ⟨p1, p3, (as.take i).map V.ref, [.ref p2], rfl, rfl, h13, h33, Nat.le_of_lt (small64 (by rw [List.length_map, List.length_take]; show _ + 1 ≤ _; omega)), fun p4 np4 => ?_⟩
      have s4 := same_upd (o := .lst ((as.take i).map V.ref ++ [.ref p2])) np4
      have h24 := s4 _ _ h23
      have h44 : (upd H3 p4 (.lst ((as.take i).map V.ref ++ [.ref p2]))) p4 = some (.lst ((as.take i).map V.ref ++ [.ref p2])) := upd_same
      have s4 := s3.trans s4
      clear np4
      generalize upd H3 p4 (.lst ((as.take i).map V.ref ++ [.ref p2])) = H4 at s4 h24 h44 ⊢
      refine ⟨_, rfl, _, rfl, _, rfl, a, _, rfl, s4.seq hS, fun p5 np5 => ?_⟩
      rw [em, cutV_from, ← List.map_drop]
      have s5 := same_upd (o := .lst ((as.drop i).map V.ref)) np5
      have h25 := s5 _ _ h24
      have h45 := s5 _ _ h44
      have h55 : (upd H4 p5 (.lst ((as.drop i).map V.ref))) p5 = some (.lst ((as.drop i).map V.ref)) := upd_same
      have s5 := s4.trans s5
      clear np5
      generalize upd H4 p5 (.lst ((as.drop i).map V.ref)) = H5 at s5 h25 h45 h55 ⊢
      refine ⟨p4, p5, (as.take i).map V.ref ++ [.ref p2], (as.drop i).map V.ref, rfl, rfl, h45, h55, Nat.le_of_lt (small64 (by rw [List.length_append, List.length_map, List.length_map, List.length_take, List.length_drop]; show _ + 1 + _ ≤ _; omega)), fun p6 np6 => ?_⟩
      have s6 := same_upd (o := .lst ((as.take i).map V.ref ++ [.ref p2] ++ (as.drop i).map V.ref)) np6
      have h26 := s6 _ _ h25
      have h66 : (upd H5 p6 (.lst ((as.take i).map V.ref ++ [.ref p2] ++ (as.drop i).map V.ref))) p6 = some (.lst ((as.take i).map V.ref ++ [.ref p2] ++ (as.drop i).map V.ref)) := upd_same
      have s6 := s5.trans s6
      clear np6
      generalize upd H5 p6 (.lst ((as.take i).map V.ref ++ [.ref p2] ++ (as.drop i).map V.ref)) = H6 at s6 h26 h66 ⊢
      refine ⟨_, rfl, by show 2 ≤ sizeLine; decide, fun T nT => ?_⟩
      have sT := same_upd (o := .tup [.ref p6, .int ((t : Int) % (((as.map V.ref).length : Nat) + 1))]) nT
      refine q T p6 (as.take i ++ p2 :: as.drop i) ((rs.take i).map toI ++ ([] : List Int) :: (rs.drop i).map toI) i _ (s6.trans sT) ?_ ?_ ?_ ?_
      · rw [upd_same]
        exact congrArg (fun z => some (HO.tup [V.ref p6, V.int z])) em
      · refine sT.seq (SqL.of ?_)
        rw [h66, List.map_append, List.map_cons, List.append_assoc]
        rfl
      · exact Rg.ins (hg.mono (s6.trans sT)) (r := ([] : List Int)) (sT _ _ h26) i i
      · exact bad_ins R il (by have := ins_flat (rs := rs) i i (Nat.le_refl _) ([] : List Int); have l1 : (([] : List Int)).length ≤ 1 := (by show 0 ≤ 1; omega); omega) (.inl rfl)
    refine decF c0 ?_
    refine ⟨_, rfl, rfl, _, rfl, ?_⟩
    have e1 : decide (nv kd = V.int 1) = decide (kd = 1) := dec_nv kd 1
    rw [e1]
    by_cases c1 : kd = 1
    · refine decT c1 ?_
      have nT0 : (toI (rs.take i).flatten ++ []).Nodup := by
        rw [List.append_nil]
        obtain ⟨u, hu⟩ := take_flat_sub (rs := rs) i
        have nd := R.nd
        rw [hu] at nd
        exact toI_nodup (List.nodup_append.mp nd).1
      have nS1 : ¬ InSz (nv n) ((n : Int) + (m : Int)) := by
        rintro (h | ⟨k, h, h'⟩)
        · cases h
        · have := V.int.inj h
          omega
      refine ⟨_, rfl, _, rfl, _, rfl, a, _, rfl, hS, fun p1 np1 => ?_⟩
      rw [em, cutV_to, ← List.map_take]
      have s1 := same_upd (o := .lst ((as.take i).map V.ref)) np1
      have h1 : (upd H p1 (.lst ((as.take i).map V.ref))) p1 = some (.lst ((as.take i).map V.ref)) := upd_same
      generalize upd H p1 (.lst ((as.take i).map V.ref)) = H1 at s1 h1 ⊢
      refine ⟨_, rfl, _, rfl, _, _, rfl, rfl, by show 1 ≤ sizeLine; decide, fun p2 np2 => ?_⟩
      have h2 : (upd H1 p2 (.lst [.int ((n : Int) + (m : Int))])) p2 = some (.lst [.int ((n : Int) + (m : Int))]) := upd_same
      have s2 := s1.trans (same_upd (o := .lst [.int ((n : Int) + (m : Int))]) np2)
      have h12 := same_upd (o := .lst [.int ((n : Int) + (m : Int))]) np2 _ _ h1
      clear np2
      generalize upd H1 p2 (.lst [.int ((n : Int) + (m : Int))]) = H2 at s2 h2 h12 ⊢
      refine ⟨by show 1 ≤ sizeLine; decide, fun p3 np3 => ?_⟩
      have s3 := same_upd (o := .lst [.ref p2]) np3
      have h13 := s3 _ _ h12
      have h23 := s3 _ _ h2
      have h33 : (upd H2 p3 (.lst [.ref p2])) p3 = some (.lst [.ref p2]) := upd_same
      have s3 := s2.trans s3
      clear np3
      generalize upd H2 p3 (.lst [.ref p2]) = H3 at s3 h13 h23 h33 ⊢
      refine ⟨p1, p3, (as.take i).map V.ref, [.ref p2], rfl, rfl, h13, h33, Nat.le_of_lt (small64 (by rw [List.length_map, List.length_take]; show _ + 1 ≤ _; omega)), fun p4 np4 => ?_⟩
      have s4 := same_upd (o := .lst ((as.take i).map V.ref ++ [.ref p2])) np4
      have h24 := s4 _ _ h23
      have h44 : (upd H3 p4 (.lst ((as.take i).map V.ref ++ [.ref p2]))) p4 = some (.lst ((as.take i).map V.ref ++ [.ref p2])) := upd_same
      have s4 := s3.trans s4
      clear np4
      generalize upd H3 p4 (.lst ((as.take i).map V.ref ++ [.ref p2])) = H4 at s4 h24 h44 ⊢
      refine ⟨_, rfl, _, rfl, _, rfl, a, _, rfl, s4.seq hS, fun p5 np5 => ?_⟩
      rw [em, cutV_from, ← List.map_drop]
      have s5 := same_upd (o := .lst ((as.drop i).map V.ref)) np5
      have h25 := s5 _ _ h24
      have h45 := s5 _ _ h44
      have h55 : (upd H4 p5 (.lst ((as.drop i).map V.ref))) p5 = some (.lst ((as.drop i).map V.ref)) := upd_same
      have s5 := s4.trans s5
      clear np5
      generalize upd H4 p5 (.lst ((as.drop i).map V.ref)) = H5 at s5 h25 h45 h55 ⊢
      refine ⟨p4, p5, (as.take i).map V.ref ++ [.ref p2], (as.drop i).map V.ref, rfl, rfl, h45, h55, Nat.le_of_lt (small64 (by rw [List.length_append, List.length_map, List.length_map, List.length_take, List.length_drop]; show _ + 1 + _ ≤ _; omega)), fun p6 np6 => ?_⟩
      have s6 := same_upd (o := .lst ((as.take i).map V.ref ++ [.ref p2] ++ (as.drop i).map V.ref)) np6
      have h26 := s6 _ _ h25
      have h66 : (upd H5 p6 (.lst ((as.take i).map V.ref ++ [.ref p2] ++ (as.drop i).map V.ref))) p6 = some (.lst ((as.take i).map V.ref ++ [.ref p2] ++ (as.drop i).map V.ref)) := upd_same
      have s6 := s5.trans s6
      clear np6
      generalize upd H5 p6 (.lst ((as.take i).map V.ref ++ [.ref p2] ++ (as.drop i).map V.ref)) = H6 at s6 h26 h66 ⊢
      refine ⟨_, rfl, by show 2 ≤ sizeLine; decide, fun T nT => ?_⟩
      have sT := same_upd (o := .tup [.ref p6, .int ((t : Int) % (((as.map V.ref).length : Nat) + 1))]) nT
      refine q T p6 (as.take i ++ p2 :: as.drop i) ((rs.take i).map toI ++ [(n : Int) + (m : Int)] :: (rs.drop i).map toI) i _ (s6.trans sT) ?_ ?_ ?_ ?_
      · rw [upd_same]
        exact congrArg (fun z => some (HO.tup [V.ref p6, V.int z])) em
      · refine sT.seq (SqL.of ?_)
        rw [h66, List.map_append, List.map_cons, List.append_assoc]
        rfl
      · exact Rg.ins (hg.mono (s6.trans sT)) (r := [(n : Int) + (m : Int)]) (sT _ _ h26) i i
      · exact bad_ins R il (by have := ins_flat (rs := rs) i i (Nat.le_refl _) [(n : Int) + (m : Int)]; have l1 : ([(n : Int) + (m : Int)]).length ≤ 1 := (Nat.le_refl _); omega) (.inr ⟨[], (n : Int) + (m : Int), [], rfl, nT0, (by intro y h; cases h), .inr (.inr nS1)⟩)
    refine decF c1 ?_
    refine ⟨_, rfl, rfl, _, rfl, ?_⟩
    have e2 : decide (nv kd = V.int 2) = decide (kd = 2) := dec_nv kd 2
    rw [e2]
    by_cases c2 : kd = 2
    · refine decT c2 ?_
      have nT0 : (toI (rs.take i).flatten ++ []).Nodup := by
        rw [List.append_nil]
        obtain ⟨u, hu⟩ := take_flat_sub (rs := rs) i
        have nd := R.nd
        rw [hu] at nd
        exact toI_nodup (List.nodup_append.mp nd).1
      refine ⟨_, rfl, _, rfl, _, rfl, a, _, rfl, hS, fun p1 np1 => ?_⟩
      rw [em, cutV_to, ← List.map_take]
      have s1 := same_upd (o := .lst ((as.take i).map V.ref)) np1
      have h1 : (upd H p1 (.lst ((as.take i).map V.ref))) p1 = some (.lst ((as.take i).map V.ref)) := upd_same
      generalize upd H p1 (.lst ((as.take i).map V.ref)) = H1 at s1 h1 ⊢
      refine ⟨_, rfl, _, rfl, _, _, rfl, rfl, by show 1 ≤ sizeLine; decide, fun p2 np2 => ?_⟩
      have h2 : (upd H1 p2 (.lst [.int (-(1 : Int) - (m : Int))])) p2 = some (.lst [.int (-(1 : Int) - (m : Int))]) := upd_same
      have s2 := s1.trans (same_upd (o := .lst [.int (-(1 : Int) - (m : Int))]) np2)
      have h12 := same_upd (o := .lst [.int (-(1 : Int) - (m : Int))]) np2 _ _ h1
      clear np2
      generalize upd H1 p2 (.lst [.int (-(1 : Int) - (m : Int))]) = H2 at s2 h2 h12 ⊢
      refine ⟨by show 1 ≤ sizeLine; decide, fun p3 np3 => ?_⟩
      have s3 := same_upd (o := .lst [.ref p2]) np3
      have h13 := s3 _ _ h12
      have h23 := s3 _ _ h2
      have h33 : (upd H2 p3 (.lst [.ref p2])) p3 = some (.lst [.ref p2]) := upd_same
      have s3 := s2.trans s3
      clear np3
      generalize upd H2 p3 (.lst [.ref p2]) = H3 at s3 h13 h23 h33 ⊢
      refine ⟨p1, p3, (as.take i).map V.ref, [.ref p2], rfl, rfl, h13, h33, Nat.le_of_lt (small64 (by rw [List.length_map, List.length_take]; show _ + 1 ≤ _; omega)), fun p4 np4 => ?_⟩
      have s4 := same_upd (o := .lst ((as.take i).map V.ref ++ [.ref p2])) np4
      have h24 := s4 _ _ h23
      have h44 : (upd H3 p4 (.lst ((as.take i).map V.ref ++ [.ref p2]))) p4 = some (.lst ((as.take i).map V.ref ++ [.ref p2])) := upd_same
      have s4 := s3.trans s4
      clear np4
      generalize upd H3 p4 (.lst ((as.take i).map V.ref ++ [.ref p2])) = H4 at s4 h24 h44 ⊢
      refine ⟨_, rfl, _, rfl, _, rfl, a, _, rfl, s4.seq hS, fun p5 np5 => ?_⟩
      rw [em, cutV_from, ← List.map_drop]
      have s5 := same_upd (o := .lst ((as.drop i).map V.ref)) np5
      have h25 := s5 _ _ h24
      have h45 := s5 _ _ h44
      have h55 : (upd H4 p5 (.lst ((as.drop i).map V.ref))) p5 = some (.lst ((as.drop i).map V.ref)) := upd_same
      have s5 := s4.trans s5
      clear np5
      generalize upd H4 p5 (.lst ((as.drop i).map V.ref)) = H5 at s5 h25 h45 h55 ⊢
      refine ⟨p4, p5, (as.take i).map V.ref ++ [.ref p2], (as.drop i).map V.ref, rfl, rfl, h45, h55, Nat.le_of_lt (small64 (by rw [List.length_append, List.length_map, List.length_map, List.length_take, List.length_drop]; show _ + 1 + _ ≤ _; omega)), fun p6 np6 => ?_⟩
      have s6 := same_upd (o := .lst ((as.take i).map V.ref ++ [.ref p2] ++ (as.drop i).map V.ref)) np6
      have h26 := s6 _ _ h25
      have h66 : (upd H5 p6 (.lst ((as.take i).map V.ref ++ [.ref p2] ++ (as.drop i).map V.ref))) p6 = some (.lst ((as.take i).map V.ref ++ [.ref p2] ++ (as.drop i).map V.ref)) := upd_same
      have s6 := s5.trans s6
      clear np6
      generalize upd H5 p6 (.lst ((as.take i).map V.ref ++ [.ref p2] ++ (as.drop i).map V.ref)) = H6 at s6 h26 h66 ⊢
      refine ⟨_, rfl, by show 2 ≤ sizeLine; decide, fun T nT => ?_⟩
      have sT := same_upd (o := .tup [.ref p6, .int ((t : Int) % (((as.map V.ref).length : Nat) + 1))]) nT
      refine q T p6 (as.take i ++ p2 :: as.drop i) ((rs.take i).map toI ++ [-(1 : Int) - (m : Int)] :: (rs.drop i).map toI) i _ (s6.trans sT) ?_ ?_ ?_ ?_
      · rw [upd_same]
        exact congrArg (fun z => some (HO.tup [V.ref p6, V.int z])) em
      · refine sT.seq (SqL.of ?_)
        rw [h66, List.map_append, List.map_cons, List.append_assoc]
        rfl
      · exact Rg.ins (hg.mono (s6.trans sT)) (r := [-(1 : Int) - (m : Int)]) (sT _ _ h26) i i
      · exact bad_ins R il (by have := ins_flat (rs := rs) i i (Nat.le_refl _) [-(1 : Int) - (m : Int)]; have l1 : ([-(1 : Int) - (m : Int)]).length ≤ 1 := (Nat.le_refl _); omega) (.inr ⟨[], -(1 : Int) - (m : Int), [], rfl, nT0, (by intro y h; cases h), .inl (by omega)⟩)
    refine decF c2 ?_
    refine ⟨_, rfl, Nat.zero_le _, fun pz npz => ?_⟩
    have sz := same_upd (o := .lst []) npz
    have hz : (upd H pz (.lst [])) pz = some (.lst []) := upd_same
    generalize upd H pz (.lst []) = Hz at sz hz ⊢
    refine ⟨_, _, dpRs (sz.seq hS) (hg.mono sz), dpI (l := []) (SqL.of hz), shRs _, shI [], ?_⟩
    rw [show PyData.eqv (.list (rs.map dR)) (.list (([] : List Nat).map fun (x : Nat) => PyData.int x)) = decide (rs = []) from eqRs0 rs]
    refine ⟨_, rfl, ?_⟩
    by_cases c3 : rs = []
    · refine decT c3 ?_
      refine ⟨by show 2 ≤ sizeLine; decide, fun p2 np2 => ?_⟩
      have h2 : (upd Hz p2 (.lst [.int 0, .int 0])) p2 = some (.lst [.int 0, .int 0]) := upd_same
      have s2 := sz.trans (same_upd (o := .lst [.int 0, .int 0]) np2)
      generalize upd Hz p2 (.lst [.int 0, .int 0]) = H2 at s2 h2 ⊢
      refine ⟨by show 1 ≤ sizeLine; decide, fun p3 np3 => ?_⟩
      have s3 := same_upd (o := .lst [.ref p2]) np3
      have h23 := s3 _ _ h2
      have h33 : (upd H2 p3 (.lst [.ref p2])) p3 = some (.lst [.ref p2]) := upd_same
      have s3 := s2.trans s3
      generalize upd H2 p3 (.lst [.ref p2]) = H3 at s3 h23 h33 ⊢
      refine ⟨by show 2 ≤ sizeLine; decide, fun T nT => ?_⟩
      have sT := same_upd (o := .tup [.ref p3, .int 0]) nT
      refine q T p3 [p2] [[0, 0]] 0 _ (s3.trans sT) upd_same (sT.seq (SqL.of h33)) (RgI.one (r := [0, 0]) (sT _ _ h23)) ?_
      exact ⟨.inr ⟨n, rfl⟩, fun i r h _ => absurd h (Nat.not_lt_zero _), List.nodup_nil, (by intro x hx; cases hx), (by show 2 ≤ 1000; omega), [0, 0], rfl, .inr ⟨[0], 0, [], rfl, (by simp), (by intro y hy; rw [List.mem_singleton.mp hy]; exact ⟨Int.le_refl _, .inr ⟨n, rfl, by omega⟩⟩), .inr (.inl (by simp))⟩⟩
    · refine decF c3 ?_
      have r0 : 0 < rs.length := List.length_pos_iff.mpr c3
      refine ⟨_, rfl, _, rfl, a, _, rfl, .inl (sz.seq hS), _, _, rfl, rfl, (by rw [List.length_map]; omega), ?_⟩
      obtain ⟨k, hk⟩ : ∃ k, k = i % rs.length := ⟨_, rfl⟩
      have kl : k < rs.length := by rw [hk]; exact Nat.mod_lt _ r0
      have ek : ((t : Int) % (((as.map V.ref).length : Nat) + 1)) % ((as.map V.ref).length : Nat) = (k : Int) := by
        rw [em, List.length_map, al, hk]
        rfl
      clear hk
      obtain ⟨b, hb⟩ : ∃ b, as[k]? = some b := ⟨_, List.getElem?_eq_getElem (by omega)⟩
      obtain ⟨r, hr'⟩ : ∃ r, rs[k]? = some r := ⟨_, List.getElem?_eq_getElem kl⟩
      have hbr := hg.at_ k b r hb hr'
      have rm := List.mem_of_getElem? hr'
      have rne := R.ne r rm
      have rl := mem_len rm
      have hbR : (as.map V.ref)[k]? = some (.ref b) := by rw [List.getElem?_map, hb]; rfl
      have eA : atI (as.map V.ref) (((t : Int) % (((as.map V.ref).length : Nat) + 1)) % ((as.map V.ref).length : Nat)) = some (.ref b) := by rw [ek]; exact atI_nat hbR
      refine ⟨_, rfl, rfl, _, rfl, ?_⟩
      have e3 : decide (nv kd = V.int 3) = decide (kd = 3) := dec_nv kd 3
      rw [e3]
      by_cases c4 : kd = 3
      · refine decT c4 ?_
        obtain ⟨x, r', rfl⟩ : ∃ x r', r = x :: r' := by
          cases r with
          | nil => exact absurd rfl rne
          | cons x r' => exact ⟨x, r', rfl⟩
        refine ⟨_, rfl, _, rfl, a, _, _, _, rfl, rfl, sz.seq hS, eA, ?_⟩
        refine ⟨_, rfl, _, rfl, a, _, _, _, rfl, rfl, sz.seq hS, eA, b, _, _, nv x, rfl, rfl, SqL.of (sz _ _ hbr), atI_nat (xs := (x :: r').map nv) (j := 0) rfl, by show 1 ≤ sizeLine; decide, fun p0 np0 => ?_⟩
        have s0 := same_upd (o := .lst [nv x]) np0
        have hb0 := s0 _ _ (sz _ _ hbr)
        have h00 : (upd Hz p0 (.lst [nv x])) p0 = some (.lst [nv x]) := upd_same
        have s0 := sz.trans s0
        clear np0
        generalize upd Hz p0 (.lst [nv x]) = H0 at s0 hb0 h00 ⊢
        refine ⟨b, p0, _, _, rfl, rfl, hb0, h00, Nat.le_of_lt (small64 (by rw [List.length_map]; show _ + 1 ≤ _; omega)), fun p2 np2 => ?_⟩
        have h2 : (upd H0 p2 (.lst ((x :: r').map nv ++ [nv x]))) p2 = some (.lst ((x :: r').map nv ++ [nv x])) := upd_same
        have s2 := s0.trans (same_upd (o := .lst ((x :: r').map nv ++ [nv x])) np2)
        clear np2
        generalize upd H0 p2 (.lst ((x :: r').map nv ++ [nv x])) = H2 at s2 h2 ⊢
        have nS2 := toI_nv (x :: r')
        refine ⟨_, rfl, _, rfl, _, rfl, a, _, rfl, s2.seq hS, fun p1 np1 => ?_⟩
        rw [ek, cutV_to, ← List.map_take]
        have s1 := same_upd (o := .lst ((as.take k).map V.ref)) np1
        have h21 := s1 _ _ h2
        have h11 : (upd H2 p1 (.lst ((as.take k).map V.ref))) p1 = some (.lst ((as.take k).map V.ref)) := upd_same
        have s1 := s2.trans s1
        clear np1
        generalize upd H2 p1 (.lst ((as.take k).map V.ref)) = H1 at s1 h21 h11 ⊢
        refine ⟨_, rfl, by show 1 ≤ sizeLine; decide, fun p3 np3 => ?_⟩
        have s3 := same_upd (o := .lst [.ref p2]) np3
        have h13 := s3 _ _ h11
        have h23 := s3 _ _ h21
        have h33 : (upd H1 p3 (.lst [.ref p2])) p3 = some (.lst [.ref p2]) := upd_same
        have s3 := s1.trans s3
        clear np3
        generalize upd H1 p3 (.lst [.ref p2]) = H3 at s3 h13 h23 h33 ⊢
        refine ⟨p1, p3, (as.take k).map V.ref, [.ref p2], rfl, rfl, h13, h33, Nat.le_of_lt (small64 (by rw [List.length_map, List.length_take]; show _ + 1 ≤ _; omega)), fun p4 np4 => ?_⟩
        have s4 := same_upd (o := .lst ((as.take k).map V.ref ++ [.ref p2])) np4
        have h24 := s4 _ _ h23
        have h44 : (upd H3 p4 (.lst ((as.take k).map V.ref ++ [.ref p2]))) p4 = some (.lst ((as.take k).map V.ref ++ [.ref p2])) := upd_same
        have s4 := s3.trans s4
        clear np4
        generalize upd H3 p4 (.lst ((as.take k).map V.ref ++ [.ref p2])) = H4 at s4 h24 h44 ⊢
        refine ⟨_, rfl, _, rfl, _, _, rfl, rfl, _, rfl, a, _, rfl, s4.seq hS, fun p5 np5 => ?_⟩
        rw [show ((t : Int) % (((as.map V.ref).length : Nat) + 1)) % ((as.map V.ref).length : Nat) + 1 = ((k + 1 : Nat) : Int) from by rw [ek]; rfl, cutV_from, ← List.map_drop]
        have s5 := same_upd (o := .lst ((as.drop (k + 1)).map V.ref)) np5
        have h25 := s5 _ _ h24
        have h45 := s5 _ _ h44
        have h55 : (upd H4 p5 (.lst ((as.drop (k + 1)).map V.ref))) p5 = some (.lst ((as.drop (k + 1)).map V.ref)) := upd_same
        have s5 := s4.trans s5
        clear np5
        generalize upd H4 p5 (.lst ((as.drop (k + 1)).map V.ref)) = H5 at s5 h25 h45 h55 ⊢
        refine ⟨p4, p5, (as.take k).map V.ref ++ [.ref p2], (as.drop (k + 1)).map V.ref, rfl, rfl, h45, h55, Nat.le_of_lt (small64 (by rw [List.length_append, List.length_map, List.length_map, List.length_take, List.length_drop]; show _ + 1 + _ ≤ _; omega)), fun p6 np6 => ?_⟩
        have s6 := same_upd (o := .lst ((as.take k).map V.ref ++ [.ref p2] ++ (as.drop (k + 1)).map V.ref)) np6
        have h26 := s6 _ _ h25
        have h66 : (upd H5 p6 (.lst ((as.take k).map V.ref ++ [.ref p2] ++ (as.drop (k + 1)).map V.ref))) p6 = some (.lst ((as.take k).map V.ref ++ [.ref p2] ++ (as.drop (k + 1)).map V.ref)) := upd_same
        have s6 := s5.trans s6
        clear np6
        generalize upd H5 p6 (.lst ((as.take k).map V.ref ++ [.ref p2] ++ (as.drop (k + 1)).map V.ref)) = H6 at s6 h26 h66 ⊢
        refine ⟨_, rfl, by show 2 ≤ sizeLine; decide, fun T nT => ?_⟩
        have sT := same_upd (o := .tup [.ref p6, .int (((t : Int) % (((as.map V.ref).length : Nat) + 1)) % ((as.map V.ref).length : Nat))]) nT
        refine q T p6 (as.take k ++ p2 :: as.drop (k + 1)) ((rs.take k).map toI ++ (toI (x :: r') ++ [(x : Int)]) :: (rs.drop (k + 1)).map toI) k _ (s6.trans sT) ?_ ?_ ?_ ?_
        · rw [upd_same]
          exact congrArg (fun z => some (HO.tup [V.ref p6, V.int z])) ek
        · refine sT.seq (SqL.of ?_)
          rw [h66, List.map_append, List.map_cons, List.append_assoc]
          rfl
        · refine Rg.ins (hg.mono (s6.trans sT)) (r := toI (x :: r') ++ [(x : Int)]) ?_ k (k + 1)
          rw [sT _ _ h26, List.map_append, nS2]
          rfl
        · obtain ⟨u, hu⟩ := take_flat_sub (rs := rs) (k + 1)
          have nd := R.nd
          have ef : (rs.take (k + 1)).flatten = (rs.take k).flatten ++ (x :: r') := by rw [List.take_add_one, hr']; simp
          rw [hu, ef] at nd
          have nd2 := toI_nodup (List.nodup_append.mp nd).1
          have ap : toI ((rs.take k).flatten ++ (x :: r')) = toI (rs.take k).flatten ++ toI (x :: r') := List.map_append
          rw [ap] at nd2
          have fb := ins_flat (rs := rs) k (k + 1) (Nat.le_succ _) (toI (x :: r') ++ [(x : Int)])
          have lq : (toI (x :: r') ++ [(x : Int)]).length = (x :: r').length + 1 := by
            rw [List.length_append]
            unfold toI
            rw [List.length_map]
            rfl
          refine bad_ins R (Nat.le_of_lt kl) (by omega) (.inr ⟨toI (x :: r'), (x : Int), [], rfl, nd2, fun y hy => ?_, .inr (.inl (List.mem_append_right _ (toI_mem.mpr ⟨x, List.mem_cons_self, rfl⟩)))⟩)
          obtain ⟨z, hz2, rfl⟩ := toI_mem.mp hy
          have := R.lt z (List.mem_flatten.mpr ⟨_, rm, hz2⟩)
          exact ⟨by omega, .inr ⟨n, rfl, by omega⟩⟩
      · refine decF c4 ?_
        obtain ⟨r', y, rfl⟩ : ∃ r' y, r = r' ++ [y] := ⟨r.dropLast, r.getLast rne, (List.dropLast_concat_getLast rne).symm⟩
        refine ⟨_, rfl, _, rfl, _, rfl, a, _, _, _, rfl, rfl, sz.seq hS, eA, _, rfl, b, _, _, nv y, rfl, rfl, SqL.of (sz _ _ hbr), ?_, by show 1 ≤ sizeLine; decide, fun p2 np2 => ?_⟩
        · rw [List.map_append]
          exact atI_last _ _
        have h2 : (upd Hz p2 (.lst [nv y])) p2 = some (.lst [nv y]) := upd_same
        have s2 := sz.trans (same_upd (o := .lst [nv y]) np2)
        clear np2
        generalize upd Hz p2 (.lst [nv y]) = H2 at s2 h2 ⊢
        refine ⟨by show 1 ≤ sizeLine; decide, fun p3 np3 => ?_⟩
        have s3 := same_upd (o := .lst [.ref p2]) np3
        have h23 := s3 _ _ h2
        have h33 : (upd H2 p3 (.lst [.ref p2])) p3 = some (.lst [.ref p2]) := upd_same
        have s3 := s2.trans s3
        clear np3
        generalize upd H2 p3 (.lst [.ref p2]) = H3 at s3 h23 h33 ⊢
        refine ⟨a, p3, _, _, rfl, rfl, s3 _ _ ha, h33, Nat.le_of_lt (small64 (by rw [List.length_map]; show _ + 1 ≤ _; omega)), fun p6 np6 => ?_⟩
        have s6 := same_upd (o := .lst (as.map V.ref ++ [.ref p2])) np6
        have h26 := s6 _ _ h23
        have h66 : (upd H3 p6 (.lst (as.map V.ref ++ [.ref p2]))) p6 = some (.lst (as.map V.ref ++ [.ref p2])) := upd_same
        have s6 := s3.trans s6
        clear np6
        generalize upd H3 p6 (.lst (as.map V.ref ++ [.ref p2])) = H6 at s6 h26 h66 ⊢
        refine ⟨_, rfl, a, _, rfl, .inl (s6.seq hS), by show 2 ≤ sizeLine; decide, fun T nT => ?_⟩
        have sT := same_upd (o := .tup [.ref p6, .int ((as.map V.ref).length : Nat)]) nT
        have tk : rs.take rs.length = rs := List.take_length
        refine q T p6 (as ++ [p2]) (rs.map toI ++ [[(y : Int)]]) rs.length _ (s6.trans sT) ?_ ?_ ?_ ?_
        · rw [upd_same, List.length_map, al]
          rfl
        · refine sT.seq (SqL.of ?_)
          rw [h66, List.map_append]
          rfl
        · exact (hg.mono (s6.trans sT)).ints.app (RgI.one (r := [(y : Int)]) (sT _ _ h26))
        · have B := bad_ins R (i := rs.length) (Nat.le_refl _) (b := [(y : Int)]) (more := []) (by have := ins_flat (rs := rs) rs.length rs.length (Nat.le_refl _) [(y : Int)]; rw [List.drop_length] at this; have l1 : [(y : Int)].length = 1 := rfl; simp only [List.map_nil] at this; omega)
            (.inr ⟨[], (y : Int), [], rfl, by rw [tk, List.append_nil]; exact toI_nodup R.nd, (by intro z hz2; cases hz2), .inr (.inl (by rw [tk, List.append_nil]; exact toI_mem.mpr ⟨y, List.mem_flatten.mpr ⟨_, rm, List.mem_append_right _ List.mem_cons_self⟩, rfl⟩))⟩)
          rw [tk] at B
          exact B
end
/-- the truth of what an expression tells -/
def tTruT (K : PySem.W.Frag) (t : TE) : TT := fun σ H Q => t σ H fun x H1 => ∃ k, TruV K x H1 k ∧ Q k H1
section
variable {P : Program} {w : World} {K : PySem.W.Frag} {mg : Str → Option Value} {base : Heap} {CP CW : Addr}
/-! ### Word.__init__ of one known part -/
structure WdTxt (K : PySem.W.Frag) (CW : Addr) : Prop where
  cl : Cls K CW
  nP : NoAttr K CW "parts"
  nK : NoAttr K CW "_kinds"
abbrev s_Word_init : Stmt := inClass (top 27) 0
theorem sc_Word_init : FnScope ["self", "parts", "kinds", "names", "part", "name"] ["self", "parts", "kinds"] (defScope s_Word_init) := ⟨rfl, rfl, rfl, by decide +kernel, rfl, by decide +kernel, by decide +kernel⟩

def spWd1 (K : PySem.W.Frag) (CP CW : Addr) : Sp := fun vs H Q _ => ∃ (x dx a b p m : Addr) (kv : List (Key × V)), vs = [.ref x, .ref a, .ref b] ∧ H x = some (.ins CW dx []) ∧ SqL K H a [.ref p] ∧ PartK CP H p m kv ∧
  ∀ (fs : List (Str × V)) (H' : Hp), (∀ b o, H b = some o → b ≠ x → H' b = some o) → H' x = some (.ins CW dx fs) → Q .non H'
theorem ok_Word_init1 {f : Addr} {fd : FuncData} (F : Fun K "__init__" "Word.__init__" s_Word_init f fd) (T : Blt mg) (W : WdTxt K CW) (WP : PTxt K CP) (D_one_form : DefOk P w K mg base CX0 3 "one_form" ["parts", "kinds"] [] (spOne1 K CP)) :
    FnOk P w K mg base CX0 4 f fd ["self", "parts", "kinds"] (spWd1 K CP CW) := by
  refine F.ok sc_Word_init (fun vs H Q E h => ?_) (fun cdv A outer s H vs Q E hr h => ?_)
  · obtain ⟨x, dx, a, b, p, m, kv, rfl, _⟩ := h; rfl
  · obtain ⟨x, dx, a, b, p, m, kv, rfl, hx, hS, hP, q⟩ := h
    have hu := hu_of hr
    have hu2 : (A.deeper (envOfC "Word.__init__" (defScope s_Word_init) s.heap.objs.size f cdv)).units + 64 < cLine := by have := hr.un; omega
    refine ⟨_, (pss_cons (ps_fld (pv 0) (pe_d D_one_form hr pass0 (pa_cons (pv 1) (pa_cons (pv 2) pa_nil))) rfl)
    (pss_cons (ps_setLc (i := 3) (own := [("part", 4)]) (tt := tTruT K (tFld K (tVar 4) "name")) (te := tFld K (tVar 4) "name") rfl sc_Word_init.nd rfl rfl (sw_true rfl rfl rfl (by decide +kernel)) (pi_list (pe_fld (pv 0) rfl)) (blkOk_by (N := ["self", "parts", "kinds", "names", "part", "name"]) (sc := defScope s_Word_init) (by decide +kernel)) (fun _ _ _ _ _ => (pg_name (i := 4) sc_Word_init.nd rfl (.inl rfl))) (fun _ _ _ _ _ => (by exact (pts_one (pt_truth (pe_fld (pv 4) rfl) (by intro _; rfl))))) (fun _ _ _ _ _ => by exact (pe_fld (pv 4) rfl)))
    (pss_one (ps_fld (pv 0) (pe_dc (own := [("name", 5)]) (tt := tYes) (tk := tVar 5) (tv := tDGet (tVar 2) (tVar 5)) rfl sc_Word_init.nd (pi_list (pe_callB (cr_sortedT rfl) (by rfl) T.sorted (by decide +kernel) (pa_cons (pe_callTy (cr_setOfT rfl hu2) (by rfl) T.set (by decide +kernel) (pa_cons (pv 3) pa_nil)) pa_nil))) (blkOk_by (N := ["self", "parts", "kinds", "names", "part", "name"]) (sc := defScope s_Word_init) (by decide +kernel)) (fun _ _ _ _ _ => (pg_name (i := 5) sc_Word_init.nd rfl (.inl rfl))) (fun _ _ _ _ _ => pts_nil) (fun _ _ _ _ _ => by exact (pv 5)) (fun _ _ _ _ _ => by exact (pe_dget hu (pv 2) (pv 5) (fun _ _ => rfl)))) rfl)))), ?_⟩
    refine ⟨_, rfl, _, rfl, a, b, p, m, kv, rfl, hS, hP, fun o H1 s1 no hc => ?_⟩
    have hx1 := s1 _ _ hx
    refine ⟨_, rfl, x, CW, dx, [], rfl, hx1, W.cl, W.nP, (by show 0 < 1000; decide), ?_⟩
    have e1 : putF "parts" (.ref o) [] = [(("parts" : Str), V.ref o)] := rfl
    rw [e1]
    have s2 : ∀ b u, H b = some u → b ≠ x → (upd H1 x (.ins CW dx [("parts", .ref o)])) b = some u := fun b u h ne => by rw [upd_ne ne]; exact s1 _ _ h
    have ox : o ≠ x := fun e => by rw [e, hx] at no; cases no
    have hx2 : (upd H1 x (.ins CW dx [("parts", .ref o)])) x = some (.ins CW dx [("parts", .ref o)]) := upd_same
    have mx : m ≠ x := fun e => by rw [← e, hP.2] at hx; cases hx
    obtain ⟨ys, yl, ho, hy⟩ : ∃ ys : List V, ys.length ≤ 1 ∧ H1 o = some (.lst ys) ∧ ∀ y ∈ ys, ∃ (p2 dx2 m2 : Addr), y = .ref p2 ∧ H p2 = none ∧ H1 p2 = some (.ins CP dx2 (pF (.str "") (.bl false) (.ref m2))) := by
      rcases hc with ⟨_, h⟩ | ⟨_, p2, n2, h, ⟨⟨dx2, h2⟩, _⟩⟩
      · exact ⟨[], Nat.zero_le _, h, by intro y hy; cases hy⟩
      · exact ⟨[.ref p2], Nat.le_refl _, h, by intro y hy; rw [List.mem_singleton.mp hy]; exact ⟨p2, dx2, m, rfl, n2, h2⟩⟩
    have ho2 : (upd H1 x (.ins CW dx [("parts", .ref o)])) o = some (.lst ys) := by rw [upd_ne ox]; exact ho
    have hy2 : ∀ y ∈ ys, ∃ (p2 dx2 m2 : Addr), y = .ref p2 ∧ (upd H1 x (.ins CW dx [("parts", .ref o)])) p2 = some (.ins CP dx2 (pF (.str "") (.bl false) (.ref m2))) := by
      intro y hm
      obtain ⟨p2, dx2, m2, e, n2, h2⟩ := hy y hm
      exact ⟨p2, dx2, m2, e, by rw [upd_ne (fun e => by rw [e, hx] at n2; cases n2)]; exact h2⟩
    generalize upd H1 x (.ins CW dx [("parts", .ref o)]) = H2 at s2 hx2 ho2 hy2 ⊢
    refine ⟨_, rfl, x, CW, dx, _, _, rfl, hx2, W.cl, W.nP, lk1, o, rfl, ⟨_, SqL.of ho2⟩, fun D nD => ?_⟩
    refine lc_list (K := K) (a := o) (xs := ys) (fun i H3 => Same H2 H3 ∧ H3 D = some (.lst [])) ⟨same_upd nD, upd_same⟩ (fun i H3 _ ⟨s3, _⟩ => SqL.of (s3 _ _ ho2)) ?_ ?_
    · rintro i y H3 hi ⟨s3, h3⟩
      obtain ⟨p2, dx2, m2, rfl, h2⟩ := hy2 y (List.mem_of_getElem? hi)
      exact ⟨rfl, _, rfl, p2, CP, dx2, _, _, rfl, s3 _ _ h2, WP.cl, WP.nN, pF_name _ _ _, false, ⟨by decide +kernel, by decide +kernel⟩, iteF ⟨s3, h3⟩⟩
    · rintro H3 ⟨s3, h3⟩
      refine ⟨_, rfl, D, [], rfl, SqL.of h3, (by intro p hp; cases hp), (by show 0 < 64; decide), fun S L nS hL _ => ?_⟩
      have L0 : L = [] := by
        cases L with
        | nil => rfl
        | cons z L => cases hL z List.mem_cons_self
      subst L0
      refine ⟨S, [], 1, 0, rfl, upd_same, (by intro p hp; cases hp), Nat.le_refl _, (by intro p hp; cases hp), fun L' Z hp _ _ _ nZ => ?_⟩
      have L1 : L' = [] := hp.eq_nil
      subst L1
      have hx3 := s3 _ _ hx2
      have nZ0 := nZ
      have sZ : Same H2 (upd (upd H3 S (SetTO P w S [])) Z (.lst [])) := s3.trans ((same_upd nS).trans (same_upd nZ))
      have hZ : (upd (upd H3 S (SetTO P w S [])) Z (.lst [])) Z = some (.lst []) := upd_same
      refine ⟨Z, rfl, ⟨_, SqL.of hZ⟩, fun D2 nD2 => ?_⟩
      refine dc_walk (walk_list (K := K) (a := Z) (xs := [])) (H1 := upd (upd H3 S (SetTO P w S [])) Z (.lst [])) (fun i H5 => Same (upd (upd H3 S (SetTO P w S [])) Z (.lst [])) H5) (same_upd nD2) (fun i H5 _ s5 => SqL.of (s5 _ _ hZ)) ?_ ?_
      · rintro i y H5 H6 hi
        exact absurd hi (Nat.not_lt_zero _)
      · intro H5 s5
        have sE := sZ.trans s5
        refine ⟨_, rfl, x, CW, dx, _, rfl, sE _ _ hx2, W.cl, W.nK, (by show 1 < 1000; decide), q _ _ (fun b u hb ne => ?_) upd_same⟩
        rw [upd_ne ne]
        exact sE _ _ (s2 _ _ hb ne)
end
section
variable {P : Program} {w : World} {K : PySem.W.Frag} {mg : Str → Option Value} {base : Heap} {C CP CW : Addr}
/-! ### Word.known(rings) -/
abbrev s_Word_known : Stmt := inClass (top 27) 2
theorem sc_Word_known : FnScope ["rings"] ["rings"] (defScope s_Word_known) := ⟨rfl, rfl, rfl, by decide +kernel, rfl, by decide +kernel, by decide +kernel⟩

def spKnown (K : PySem.W.Frag) (CW : Addr) : Sp := fun vs H Q _ => ∃ (a : Addr) (as : List Addr) (rs : List (List Nat)), vs = [.ref a] ∧ SqL K H a (as.map V.ref) ∧ Rg H as rs ∧ (∀ r ∈ rs, r ≠ []) ∧ rs.flatten.Nodup ∧ rs.flatten.length ≤ 1000 ∧
  ∀ (x dx : Addr) (fs : List (Str × V)) (H' : Hp), Same H H' → H x = none → H' x = some (.ins CW dx fs) → Q (.ref x) H'
theorem ok_Word_known {f : Addr} {fd : FuncData} (F : Fun K "known" "Word.known" s_Word_known f fd) (D_moves_of : DefOk P w K mg base CX0 1 "moves_of" ["rings", "size"] [.non] (spMoves K)) (D_known_part : DefOk P w K mg base CX0 3 "known_part" ["moves"] [] (spKnownPart CP))
    (M_Word : MakeOk P w K mg base CX0 4 CW "Word" ["self", "parts", "kinds"] [] (spWd1 K CP CW)) : FnOk P w K mg base CX0 6 f fd ["rings"] (spKnown K CW) := by
  refine F.ok sc_Word_known (fun vs H Q E h => ?_) (fun cdv A outer s H vs Q E hr h => ?_)
  · obtain ⟨a, as, rs, rfl, _⟩ := h; rfl
  · obtain ⟨a, as, rs, rfl, hS, hg, hne, hnd, hl, q⟩ := h
    refine ⟨_, (pss_one (ps_ret (pe_mk' M_Word hr pass0 (pa_cons (pe_lst (pa_cons (pe_d D_known_part hr pass0 (pa_cons (pe_d D_moves_of hr pass0 (pa_cons (pv 0) pa_nil)) pa_nil)) pa_nil)) (pa_cons pe_dnewK pa_nil))))), ?_⟩
    have pl : (pairs rs).length = rs.flatten.length := by rw [← pairs_fst rs, List.length_map]
    refine ⟨_, rfl, a, .non, as, rs, rfl, hS, hg, .inl rfl, hne, hnd, hl, fun d H1 s1 nd hd => ?_⟩
    refine ⟨d, pairs rs, rfl, hd, by rw [pairs_fst]; exact hnd, by omega, fun p dx m H2 s2 np nm mp hp hm => ?_⟩
    have s2' := s1.trans s2
    refine ⟨by show 1 ≤ sizeLine; decide, fun L nL => ?_⟩
    have sL := same_upd (o := .lst [.ref p]) nL
    have hL : (upd H2 L (.lst [.ref p])) L = some (.lst [.ref p]) := upd_same
    have hpL := sL _ _ hp
    have hmL := sL _ _ hm
    have s3 := s2'.trans sL
    generalize upd H2 L (.lst [.ref p]) = H3 at hL hpL hmL s3 ⊢
    refine fun e ne x dx nx ndx nex => ?_
    have se := same_upd (o := .dK []) ne
    have s4 := s3.trans se
    have hL4 := se _ _ hL
    have hp4 := se _ _ hpL
    have hm4 := se _ _ hmL
    generalize upd H3 e (.dK []) = H4 at s4 hL4 hp4 hm4 nx ndx ⊢
    have s5 : Same H4 (upd (upd H4 dx (.own x)) x (.ins CW dx [])) := (same_upd ndx).trans (same_upd (by rw [upd_ne nex.symm]; exact nx))
    refine ⟨x, dx, L, e, p, m, _, rfl, upd_same, SqL.of (s5 _ _ hL4), ⟨⟨_, s5 _ _ hp4⟩, s5 _ _ hm4⟩, fun fs H5 k hx => ⟨rfl, ?_⟩⟩
    exact q x dx fs H5 (s4.trans (Same.made nx ndx k)) (s4.free nx) hx
end
section
variable {P : Program} {w : World} {K : PySem.W.Frag} {mg : Str → Option Value} {base : Heap} {C CP CW : Addr}
/-! ### _law_is_alone -/
def ttAlone (K : PySem.W.Frag) (C : Addr) : TT := tOr (tTest (tOp (rEqOwn K C false (spEq K C) E0) (tVar 0) (tVar 4))) (tNot (tTest (tOp (rEqOwn K C true (spEq K C) E0) (tVar 0) (tVar 4))))
/-- a type that is none of the wire's, nor below it -/
structure Oth (K : PySem.W.Frag) (C : Addr) (t : Value) : Prop where
  kit : PySem.W.kitOne K t (.ref C) = some false
  nf : PySem.W.notFirst K C t = true
structure Oths (K : PySem.W.Frag) (C CW : Addr) : Prop where
  non : Oth K C (.type "NoneType")
  int : Oth K C (.type "int")
  bl : Oth K C (.type "bool")
  lst : Oth K C (.type "list")
  str : Oth K C (.type "str")
  wd : Oth K C (.ref CW)
abbrev s_l_is_alone : Stmt := top 49
theorem sc_l_is_alone : FnScope ["_law_wire_here", "_law_images", "_law_rings_here", "_law_others", "_law_one"] ["_law_wire_here", "_law_images", "_law_rings_here"] (defScope s_l_is_alone) := ⟨rfl, rfl, rfl, by decide +kernel, rfl, by decide +kernel, by decide +kernel⟩

def spAlone (K : PySem.W.Frag) (C : Addr) : Sp := fun vs H Q _ => ∃ (x a b : Addr) (im : List Nat) (ys : List V), vs = [.ref x, .ref a, .ref b] ∧ WireAt C H x im ∧ H a = some (.lst (im.map nv)) ∧ H b = some (.lst ys) ∧ IsPerm im ∧ im.length ≤ 60 ∧ ∀ H' : Hp, Same H H' → Q (.bl true) H'
theorem ok_l_is_alone {f : Addr} {fd : FuncData} (F : Fun K "_law_is_alone" "_law_is_alone" s_l_is_alone f fd) (T : WTop K mg C) (str : mg "str" = none) (gW : mg "Word" = some (.ref CW)) (O : Oths K C CW)
    (clW : Cls K CW) (claW : PySem.W.findIn K (.ref CW) "__class__" = some (some (.builtin "object.__class__"))) (hmroW : PySem.W.mroIn K CW (.type "object") = some true)
    (hne : PySem.W.findIn K (.ref C) "__ne__" = some (some (.builtin "object.__ne__"))) (hmr : PySem.W.mroIn K C (.type "object") = some true)
    (D_Wire_eq : MethOk P w K mg base CX0 1 C "__eq__" ["self", "other"] [] (spEq K C)) (D_Wire_str : MethOk P w K mg base CX0 3 C "__str__" ["self"] [] (spStr C)) (D_l_rings : DefOk P w K mg base CX0 1 "_law_rings" ["_law_images"] [] (spRings K))
    (S_Word_known : StatOk P w K mg base CX0 6 CW "known" ["rings"] [] (spKnown K CW)) : FnOk P w K mg base CX0 7 f fd ["_law_wire_here", "_law_images", "_law_rings_here"] (spAlone K C) := by
  refine F.ok sc_l_is_alone (fun vs H Q E h => ?_) (fun cdv A outer s H vs Q E hr h => ?_)
  · obtain ⟨x, a, b, im, ys, rfl, _⟩ := h; rfl
  · obtain ⟨x, a, b, im, ys, rfl, hW, ha, hb, hI, hn, q⟩ := h
    have PP := hI.perm
    obtain ⟨l, ⟨dx, h1⟩, h2⟩ := id hW
    have hu2 : (A.deeper (envOfC "_law_is_alone" (defScope s_l_is_alone) s.heap.objs.size f cdv)).units + 64 < cLine := by have := hr.un; omega
    refine ⟨_, (pss_cons (ps_set (i := 3) sc_l_is_alone.nd rfl (.inl rfl) (pe_lst (pa_cons pe_non (pa_cons pe_int (pa_cons pe_bl (pa_cons (pv 1) (pa_cons (pv 2) (pa_cons (pe_callTy call_strI (by rfl) str (by decide +kernel) (pa_cons (pe_callB call_lenS (by rfl) T.len PySem.boot_len (pa_cons (pv 1) pa_nil)) pa_nil)) (pa_cons (pe_callTy (call_strOwn D_Wire_str hr pass0) (by rfl) str (by decide +kernel) (pa_cons (pv 0) pa_nil)) (pa_cons (pe_stat S_Word_known hr pass0 (pe_glob (v := .ref _) rfl gW rfl) (pa_cons (pe_d D_l_rings hr pass0 (pa_cons (pv 1) pa_nil)) pa_nil)) pa_nil))))))))))
    (pss_one (ps_ret (pe_cmpR (op_eqD hu2) (pe_lc (own := [("_law_one", 4)]) (tt := ttAlone K C) rfl sc_l_is_alone.nd (pi_list (pv 3)) (blkOk_by (N := ["_law_wire_here", "_law_images", "_law_rings_here", "_law_others", "_law_one"]) (sc := defScope s_l_is_alone) (by decide +kernel)) (fun _ _ _ _ _ => (pg_name (i := 4) sc_l_is_alone.nd rfl (.inl rfl))) (fun _ _ _ _ _ => (by exact (pts_one (PW.pt (pw_or (pt_cmpR (op_eqOwn D_Wire_eq hr pass0) (pv 0) (pv 4) (nomark _)) (pw_or1 (pt_not (pt_cmpR (op_neOwn D_Wire_eq hne hmr hr pass0) (pv 0) (pv 4) (nomark _))))))))) (fun _ _ _ _ _ => by exact (pv 4))) (pe_lst pa_nil) (nomark _))))), ?_⟩
    have tot := rings_total PP
    refine ⟨_, rfl, _, rfl, _, rfl, a, _, rfl, .inl (SqL.of ha), _, rfl, ?_, _, rfl, x, dx, _, rfl, h1, x, im, rfl, hW, hI, hn, fun H1 s1 => ⟨_, rfl, rfl, _, rfl, a, im, rfl, s1.seq (SqL.of ha), hI, by omega, fun o as H2 s2 no nas hoa hnd ho hg => ?_⟩⟩
    · rw [Int.natAbs_natCast, List.length_map]
      exact Nat.lt_of_le_of_lt (Nat.log2_le_self _) (by omega)
    refine ⟨o, as, _, rfl, SqL.of ho, hg, fun r hr' => rings_ne PP hr', rings_nodup PP, by omega, fun wd dw fs H3 s3 nw hw => ?_⟩
    refine ⟨by show 8 ≤ sizeLine; decide, fun L nL => ?_⟩
    have sL := (s1.trans s2).trans (s3.trans (same_upd (o := .lst [V.non, V.int 5, V.bl true, V.ref a, V.ref b, V.str (Str.ofString (toString (((im.map nv).length : Nat) : Int))), V.str (txW im), V.ref wd]) nL))
    have hwL := same_upd (o := .lst [V.non, V.int 5, V.bl true, V.ref a, V.ref b, V.str (Str.ofString (toString (((im.map nv).length : Nat) : Int))), V.str (txW im), V.ref wd]) nL _ _ hw
    obtain ⟨l8, e8⟩ : ∃ l8, l8 = [V.non, V.int 5, V.bl true, V.ref a, V.ref b, V.str (Str.ofString (toString (((im.map nv).length : Nat) : Int))), V.str (txW im), V.ref wd] := ⟨_, rfl⟩
    have hL : (upd H3 L (.lst l8)) L = some (.lst l8) := upd_same
    rw [← e8] at sL hwL
    have l8l : l8.length = 8 := by rw [e8]; rfl
    have O8 : ∀ H5, Same (upd H3 L (.lst l8)) H5 → ∀ y ∈ l8, ∃ t, TyX K H5 y t ∧ Oth K C t := by
      intro H5 s5 y hy
      have s05 := sL.trans s5
      rw [e8] at hy
      simp only [List.mem_cons, List.not_mem_nil, or_false] at hy
      rcases hy with rfl | rfl | rfl | rfl | rfl | rfl | rfl | rfl
      · exact ⟨_, .base .non, O.non⟩
      · exact ⟨_, .base (.int _), O.int⟩
      · exact ⟨_, .base (.bl _), O.bl⟩
      · exact ⟨_, .base (.lst (s05 _ _ ha)), O.lst⟩
      · exact ⟨_, .base (.lst (s05 _ _ hb)), O.lst⟩
      · exact ⟨_, .base (.str _), O.str⟩
      · exact ⟨_, .base (.str _), O.str⟩
      · exact ⟨_, .base (.ins (s5 _ _ hwL) clW claW T.hget T.htk hmroW), O.wd⟩
    have go : ∀ v, v = HO.lst l8 → (upd H3 L v) = upd H3 L (.lst l8) := fun v e => by rw [e]
    rw [← e8]
    refine ⟨_, rfl, L, rfl, ⟨_, SqL.of hL⟩, fun D nD => ?_⟩
    refine lc_list (K := K) (a := L) (xs := l8) (fun i H5 => Same (upd H3 L (.lst l8)) H5 ∧ H5 D = some (.lst [])) ⟨same_upd nD, upd_same⟩ (fun i H5 _ ⟨s5, _⟩ => SqL.of (s5 _ _ hL)) ?_ ?_
    · rintro i y H5 hi ⟨s5, h5⟩
      obtain ⟨t, ty, ot⟩ := O8 H5 s5 y (List.mem_of_getElem? hi)
      have hW5 := hW.mono (sL.trans s5)
      refine ⟨rfl, ?_⟩
      refine ⟨_, rfl, _, rfl, x, dx, _, t, rfl, (sL.trans s5) _ _ h1, ty, ot.nf, x, im, y, rfl, hW5, .inr ⟨t, ty, ot.kit, fun H6 s6 => ⟨false, rfl, _, rfl, ?_⟩⟩⟩
      obtain ⟨t, ty, ot⟩ := O8 H6 (s5.trans s6) y (List.mem_of_getElem? hi)
      have hW6 := hW5.mono s6
      refine iteF ⟨_, rfl, _, rfl, x, dx, _, t, rfl, (sL.trans (s5.trans s6)) _ _ h1, ty, ot.nf, x, im, y, rfl, hW6, .inr ⟨t, ty, ot.kit, fun H7 s7 => ⟨false, rfl, _, rfl, iteF ⟨(s5.trans s6).trans s7, (s6.trans s7) _ _ h5⟩⟩⟩⟩
    · rintro H5 ⟨s5, h5⟩
      refine ⟨Nat.zero_le _, fun pz npz => ?_⟩
      have sz := same_upd (o := .lst []) npz
      refine ⟨_, _, dpI (l := []) (SqL.of (sz _ _ h5)), dpI (l := []) (SqL.of upd_same), shI [], shI [], ?_⟩
      rw [eqI, decide_eq_true rfl]
      exact q _ ((sL.trans s5).trans sz)
end
section
variable {X : Cx} {st : Stmt} {t : TS}
/-- the statement, and what holds behind it whichever way it went -/
def tJoin (t : TS) : TS := fun D σ H => ∃ J : L2.St → Hp → Prop, t { D with nx := J } σ H ∧ ∀ σ' H', J σ' H' → D.nx σ' H'
theorem ps_join (h : PS X st t) : PS X st (tJoin t) := by
  refine ⟨fun pins s σ H D I hw => ?_⟩
  obtain ⟨J, ht, hj⟩ := hw
  refine wpAny_mono (h.run pins s σ H { D with nx := J } I ht) (fun fl s1 sp => ?_) fun _ _ z => z
  match fl, sp with
  | .next, ⟨σ', H', I', q⟩ => exact ⟨σ', H', I', hj σ' H' q⟩
  | .brk, sp => exact sp
  | .cont, sp => exact sp
  | .ret u, sp => exact sp
end
section
variable {P : Program} {w : World} {K : PySem.W.Frag} {mg : Str → Option Value} {base : Heap} {C : Addr}
def spGet (C : Addr) : Sp := fun vs H Q _ => ∃ (a : Addr) (im : List Nat) (i : Nat), vs = [.ref a, nv i] ∧ WireAt C H a im ∧ i < im.length ∧ Q (nv (ap im i)) H
theorem ok_Wire_getitem {f : Addr} {fd : FuncData} (F : Fun K "__getitem__" "Wire.__getitem__" s_Wire_getitem f fd) (T : Blt mg) (W : WTxt K C) : FnOk P w K mg base CX0 1 f fd ["self", "at"] (spGet C) := by
  refine F.ok sc_Wire_getitem (fun vs H Q E h => ?_) (fun cdv A outer s H vs Q E hr h => ?_)
  · obtain ⟨a, im, i, rfl, _⟩ := h; rfl
  · obtain ⟨a, im, i, rfl, ⟨l, ⟨dx, h1⟩, h2⟩, hi, q⟩ := h
    refine ⟨_, (pss_cons (ps_if (PW.pt (pw_or (pt_cmpR op_lt (pv 1) pe_int (nomark _)) (pw_or1 (pt_cmpR op_ge (pv 1) (pe_fld (pv 0) rfl) (nomark _))))) pss_never pss_nil)
    (pss_one (ps_ret (pe_ix ix_list (pe_fld (pv 0) rfl) (pv 1) (fun _ _ => rfl))))), ?_⟩
    refine ⟨_, rfl, _, _, rfl, rfl, _, rfl, decF (by omega) ?_⟩
    refine ⟨_, rfl, _, rfl, a, C, dx, _, _, rfl, h1, W.cl, W.nS, wF_size _ _, _, _, rfl, rfl, _, rfl, decF (by omega) ?_⟩
    exact ⟨_, rfl, a, C, dx, _, _, rfl, h1, W.cl, W.nI, wF_im _ _, _, rfl, l, _, _, _, rfl, rfl, SqL.of h2, atI_nat (nv_get (ap_get hi)), q⟩
/-! ### _law_is_wire -/
abbrev s_l_is_wire : Stmt := top 43
theorem sc_l_is_wire : FnScope ["_law_wire_here", "_law_images", "_law_place"] ["_law_wire_here", "_law_images"] (defScope s_l_is_wire) := ⟨rfl, rfl, rfl, by decide +kernel, rfl, by decide +kernel, by decide +kernel⟩

def spIsWire (K : PySem.W.Frag) (C : Addr) : Sp := fun vs H Q _ => ∃ (x a : Addr) (im : List Nat), vs = [.ref x, .ref a] ∧ WireAt C H x im ∧ SqL K H a (im.map nv) ∧ im.length ≤ 60 ∧ ∀ H' : Hp, Same H H' → Q (.bl true) H'
theorem ok_l_is_wire {f : Addr} {fd : FuncData} (F : Fun K "_law_is_wire" "_law_is_wire" s_l_is_wire f fd) (T : WTop K mg C) (W : WTxt K C) (hfn : ∀ f, PySem.W.findIn K (.ref C) "__getitem__" = some (some (.ref f)) → PySem.W.fnIn K f = true)
    (D_Wire_getitem : MethOk P w K mg base CX0 1 C "__getitem__" ["self", "at"] [] (spGet C)) : FnOk P w K mg base CX0 3 f fd ["_law_wire_here", "_law_images"] (spIsWire K C) := by
  refine F.ok sc_l_is_wire (fun vs H Q E h => ?_) (fun cdv A outer s H vs Q E hr h => ?_)
  · obtain ⟨x, a, im, rfl, _⟩ := h; rfl
  · obtain ⟨x, a, im, rfl, hW, hS, hn, q⟩ := h
    obtain ⟨l, ⟨dx, h1⟩, h2⟩ := id hW
    have hu2 : (A.deeper (envOfC "_law_is_wire" (defScope s_l_is_wire) s.heap.objs.size f cdv)).units + 64 < cLine := by have := hr.un; omega
    refine ⟨_, (pss_cons (ps_if (PW.pt (pw_or (pt_not (pt_truth (pe_callB call_isi (by rfl) T.isinstance (by decide +kernel) (pa_cons (pv 0) (pa_cons (pe_glob (v := .ref _) rfl T.g_Wire rfl) pa_nil))) (by intro _; rfl))) (pw_or1 (pt_cmpR op_ne (pe_fld (pv 0) rfl) (pe_callB call_len_seq (by rfl) T.len PySem.boot_len (pa_cons (pv 1) pa_nil)) (nomark _))))) (pss_one (ps_ret pe_bl)) pss_nil)
    (pss_one (ps_ret (pe_cmpR (op_eqD hu2) (pe_lc (own := [("_law_place", 2)]) (tt := tYes) (te := tOp (rOwnIx C (spGet C) E0) (tVar 0) (tVar 2)) rfl sc_l_is_wire.nd (pi_range1 (by rfl) T.range (pa_cons (pe_callB call_len_seq (by rfl) T.len PySem.boot_len (pa_cons (pv 1) pa_nil)) pa_nil)) (blkOk_by (N := ["_law_wire_here", "_law_images", "_law_place"]) (sc := defScope s_l_is_wire) (by decide +kernel)) (fun _ _ _ _ _ => (pg_name (i := 2) sc_l_is_wire.nd rfl (.inl rfl))) (fun _ _ _ _ _ => pts_nil) (fun _ _ _ _ _ => by exact (pe_ownIx D_Wire_getitem hfn hr pass0 (pv 0) (pv 2)))) (pv 1) (nomark _))))), ?_⟩
    refine ⟨_, rfl, .ref x, .ref C, .ref C, .ref C, true, rfl, .own C, .base (.ins h1 T.cl T.cla T.hget T.htk T.hmro), kit_self, true, rfl, iteF ?_⟩
    refine ⟨_, rfl, x, C, dx, _, _, rfl, h1, W.cl, W.nS, wF_size _ _, _, rfl, a, _, rfl, .inl hS, rfl, _, rfl, ?_⟩
    have e0 : decide (nv im.length = V.int ((im.length : Nat) : Int)) = true := decide_eq_true rfl
    rw [List.length_map, e0]
    refine iteF ?_
    refine ⟨_, rfl, a, _, rfl, .inl hS, _, rfl, by omega, by rw [List.length_map]; omega, fun D nD => ?_⟩
    rw [Int.toNat_natCast, List.length_map]
    refine lc_range (lo := 0) (n := im.length) (fun i H1 => Same H H1 ∧ H1 D = some (.lst (((List.range i).map (ap im)).map nv))) ⟨same_upd nD, upd_same⟩ ?_ ?_
    · rintro i H1 hi ⟨s1, hD⟩
      rw [Int.zero_add]
      refine ⟨rfl, yesT ?_⟩
      refine ⟨_, rfl, _, rfl, x, dx, _, (i : Int), rfl, rfl, s1 _ _ h1, x, im, i, rfl, hW.mono s1, hi, _, hD, small64 (by rw [List.length_map, List.length_map, List.length_range]; omega), mutS s1 nD, ?_⟩
      rw [upd_same, List.range_succ, List.map_append, List.map_append]
      rfl
    · rintro H1 ⟨s1, hD⟩
      rw [im_eq] at hD
      refine ⟨_, rfl, _, _, dpI (SqL.of hD), dpI (s1.seq hS), shI _, shI _, ?_⟩
      rw [eqI, decide_eq_true rfl]
      exact q H1 s1
end
def rListOf (K : PySem.W.Frag) : List V → Hp → VK → Prop := fun xs H Q => ∃ p ys, xs = [.ref p] ∧ (SqL K H p ys ∨ SqT K H p ys) ∧ ∀ l, H l = none → Q (.ref l) (upd H l (.lst ys))
section
variable {X : Cx}
theorem call_listOf : CallR X (.type "list") (rListOf X.K) := call_list_of
end
theorem dp2 {K : PySem.W.Frag} {H : Hp} {T : Addr} {x : Str} {i : Int} (h : H T = some (.tup [.str x, .int i])) : Dp K H (.ref T) (.tuple [.str x, .int i]) := .tup (SqT.of h) (.cons (.str _) (.cons (.int _) .nil))
theorem dp1 {K : PySem.W.Frag} {H : Hp} {T : Addr} {x : Str} (h : H T = some (.tup [.str x])) : Dp K H (.ref T) (.tuple [.str x]) := .tup (SqT.of h) (.cons (.str _) .nil)
theorem sh2 {x : Str} (h : PyData.strOk x = true) (i : Int) : SeqAt.shaped (.tuple [.str x, .int i]) = true := by
  unfold SeqAt.shaped
  simp [PyData.canLay0, PyData.canLayAll0, PyData.depth, PyData.depthAll, h]
theorem sh1 {x : Str} (h : PyData.strOk x = true) : SeqAt.shaped (.tuple [.str x]) = true := by
  unfold SeqAt.shaped
  simp [PyData.canLay0, PyData.canLayAll0, PyData.depth, PyData.depthAll, h]
theorem eq2 (x : Str) (i : Int) : PyData.eqv (.tuple [.str x, .int i]) (.tuple [.str x, .int i]) = true := by
  simp [PyData.eqv, PyData.eqvAll]
theorem eq1 (x : Str) : PyData.eqv (.tuple [.str x]) (.tuple [.str x]) = true := by
  simp [PyData.eqv, PyData.eqvAll]
theorem isPerm_snoc {im : List Nat} (h : IsPerm im) : IsPerm (im ++ [im.length]) := by
  refine ⟨List.nodup_append.mpr ⟨h.nd, List.pairwise_singleton _ _, fun a ha b hb e => ?_⟩, fun x hx => ?_⟩
  · have := h.lt a ha
    rw [List.mem_singleton.mp hb] at e
    omega
  · rw [List.length_append]
    show x < im.length + 1
    rcases List.mem_append.mp hx with h1 | h1
    · have := h.lt x h1
      omega
    · rw [List.mem_singleton.mp h1]
      omega
section
variable {P : Program} {w : World} {K : PySem.W.Frag} {mg : Str → Option Value} {base : Heap} {C CW : Addr}
/-! ### the law -/
abbrev s_law : Stmt := top 51
theorem sc_law : FnScope ["_law_script", "_law_size_here", "_law_images", "_law_row_here", "_law_other", "_law_rings_here", "_law_ring", "_law_handed", "_law_wire_here", "_law_second_wire", "_law_place", "_law_bad", "_law_index"] ["_law_script"] (defScope s_law) := ⟨rfl, rfl, rfl, by decide +kernel, rfl, by decide +kernel, by decide +kernel⟩

def spLaw (K : PySem.W.Frag) : Sp := fun vs H Q _ => ∃ (a : Addr) (ns : List Int), vs = [.ref a] ∧ SqL K H a (ns.map V.int) ∧ ns.length ≤ 63 ∧ ∀ H', Q (.bl true) H'
set_option maxHeartbeats 1000000 in
theorem ok_law {f : Addr} {fd : FuncData} (F : Fun K "law" "law" s_law f fd) (T : WTop K mg C) (hne : PySem.W.findIn K (.ref C) "__ne__" = some (some (.builtin "object.__ne__"))) (hmr : PySem.W.mroIn K C (.type "object") = some true)
    (nfC : PySem.W.notFirst K C (.ref C) = true)
    (D_l_cell : DefOk P w K mg base CX0 1 "_law_cell" ["_law_script", "_law_k"] [] (spCell K)) (D_l_row : DefOk P w K mg base CX0 1 "_law_row" ["_law_cell_here", "_law_sizes"] [] (spRow K)) (D_l_size : DefOk P w K mg base CX0 1 "_law_size" ["_law_draw"] [] spSize)
    (D_l_drawn : DefOk P w K mg base CX0 2 "_law_drawn" ["_law_cell_here", "_law_n"] [] spDrawn) (D_l_told : DefOk P w K mg base CX0 2 "_law_told" ["_law_images", "_law_with_single", "_law_turn", "_law_is_turned"] [] (spTold K))
    (M_Wire : MakeOk P w K mg base CX0 2 C "Wire" ["self", "size", "rings"] [] (spInit K C)) (D_l_is_wire : DefOk P w K mg base CX0 3 "_law_is_wire" ["_law_wire_here", "_law_images"] [] (spIsWire K C))
    (D_Wire_rings : MethOk P w K mg base CX0 2 C "rings" ["self"] [] (spWRings C)) (D_l_rings : DefOk P w K mg base CX0 1 "_law_rings" ["_law_images"] [] (spRings K))
    (D_l_is_kept : DefOk P w K mg base CX0 3 "_law_is_kept" ["_law_wire_here", "_law_images"] [] (spKept K C)) (D_l_is_alone : DefOk P w K mg base CX0 7 "_law_is_alone" ["_law_wire_here", "_law_images", "_law_rings_here"] [] (spAlone K C))
    (D_Wire_eq : MethOk P w K mg base CX0 1 C "__eq__" ["self", "other"] [] (spEq K C)) (D_l_wire : DefOk P w K mg base CX0 4 "_law_wire" ["_law_images"] [] (spLWire K C))
    (D_l_no_place : DefOk P w K mg base CX0 5 "_law_no_place" ["_law_wire_here", "_law_place"] [] (spNoPlace C)) (D_l_fault : DefOk P w K mg base CX0 1 "_law_fault" ["_law_rings_here", "_law_size_here", "_law_kind", "_law_at", "_law_more"] [] (spFault K))
    (D_l_refused : DefOk P w K mg base CX0 6 "_law_refused" ["_law_size_here", "_law_rings_here"] [] (spRefused K)) (D_l_taken : DefOk P w K mg base CX0 4 "_law_refused" ["_law_size_here", "_law_rings_here"] [] (spTaken K)) :
    FnOk P w K mg base CX0 8 f fd ["_law_script"] (spLaw K) := by
  refine F.ok sc_law (fun vs H Q E h => ?_) (fun cdv A outer s H vs Q E hr h => ?_)
  · obtain ⟨a, ns, rfl, _⟩ := h; rfl
  · obtain ⟨a, ns, rfl, hS, hl, q⟩ := h
    have hu2 : (A.deeper (envOfC "law" (defScope s_law) s.heap.objs.size f cdv)).units + 64 < cLine := by have := hr.un; omega
    refine ⟨_, (pss_cons (ps_set (i := 1) sc_law.nd rfl (.inl rfl) (pe_d D_l_size hr pass0 (pa_cons (pe_op op_mod (pe_d D_l_cell hr pass0 (pa_cons (pv 0) (pa_cons pe_int pa_nil))) pe_int) pa_nil)))
    (pss_cons (ps_set (i := 2) sc_law.nd rfl (.inl rfl) (pe_d D_l_drawn hr pass0 (pa_cons (pe_d D_l_cell hr pass0 (pa_cons (pv 0) (pa_cons pe_int pa_nil))) (pa_cons (pv 1) pa_nil))))
    (pss_cons (ps_set (i := 3) sc_law.nd rfl (.inl rfl) (pe_d D_l_row hr pass0 (pa_cons (pe_d D_l_cell hr pass0 (pa_cons (pv 0) (pa_cons pe_int pa_nil))) (pa_cons (pe_lst (pa_cons pe_int (pa_cons pe_int (pa_cons pe_int (pa_cons pe_int (pa_cons pe_int (pa_cons pe_int (pa_cons (pe_op op_pow pe_int pe_int) pa_nil)))))))) pa_nil))))
    (pss_cons (ps_set (i := 4) sc_law.nd rfl (.inl rfl) (pe_d D_l_drawn hr pass0 (pa_cons (pe_d D_l_cell hr pass0 (pa_cons (pv 0) (pa_cons pe_int pa_nil))) (pa_cons (pv 1) pa_nil))))
    (pss_cons (ps_join (ps_if (PW.pt (pw_and (pt_cmpR op_eq (pe_ix ix_list (pv 3) pe_int (fun _ _ => rfl)) pe_int (nomark _)) (pw_and1 (pt_cmpR op_lt (pv 1) pe_int (nomark _))))) (pss_one (ps_set (i := 4) sc_law.nd rfl (.inl rfl) (pe_op op_cat (pv 2) (pe_lst (pa_cons (pv 1) pa_nil))))) pss_nil))
    (pss_cons (ps_set (i := 5) sc_law.nd rfl (.inl rfl) (pe_d D_l_told hr pass0 (pa_cons (pv 2) (pa_cons (pe_cmpR op_eq (pe_ix ix_list (pv 3) pe_int (fun _ _ => rfl)) pe_int (nomark _)) (pa_cons (pe_ix ix_list (pv 3) pe_int (fun _ _ => rfl)) (pa_cons (pe_cmpR op_eq (pe_ix ix_list (pv 3) pe_int (fun _ _ => rfl)) pe_int (nomark _)) pa_nil))))))
    (pss_cons (ps_setLc (i := 7) (own := [("_law_ring", 6)]) (tt := tYes) (te := tCB (rListOf K) (tCons (tVar 6) tNil)) rfl sc_law.nd rfl rfl (sw_true rfl rfl rfl (by decide +kernel)) (pi_list (pv 5)) (blkOk_by (N := ["_law_script", "_law_size_here", "_law_images", "_law_row_here", "_law_other", "_law_rings_here", "_law_ring", "_law_handed", "_law_wire_here", "_law_second_wire", "_law_place", "_law_bad", "_law_index"]) (sc := defScope s_law) (by decide +kernel)) (fun _ _ _ _ _ => (pg_name (i := 6) sc_law.nd rfl (.inl rfl))) (fun _ _ _ _ _ => pts_nil) (fun _ _ _ _ _ => by exact (pe_callTy call_listOf (by rfl) T.list PyProof.Rows.boot_list (pa_cons (pv 6) pa_nil))))
    (pss_cons (ps_set (i := 8) sc_law.nd rfl (.inl rfl) (pe_mk' M_Wire hr pass0 (pa_cons (pv 1) (pa_cons (pv 7) pa_nil))))
    (pss_cons (ps_if (PW.pt (pw_or (pt_cmpR (op_neD hu2) (pv 7) (pv 5) (nomark _)) (pw_or (pt_not (pt_truth (pe_d D_l_is_wire hr pass0 (pa_cons (pv 8) (pa_cons (pv 2) pa_nil))) (by intro _; rfl))) (pw_or1 (pt_cmpR (op_neD hu2) (pe_m0 D_Wire_rings T.cl hr pass0 (pv 8)) (pe_d D_l_rings hr pass0 (pa_cons (pv 2) pa_nil)) (nomark _)))))) (pss_one (ps_ret pe_bl)) pss_nil)
    (pss_cons (ps_for PassesOwn.never rfl (pi_list (pv 7)) (pg_name (i := 6) sc_law.nd rfl (.inl rfl)) (pss_one (ps_expr (pe_bm0 PySem.F.plainAttrs_list PySem.F.slot_list_clear PySem.F.type_list_clear mt_clear (pv 6)))))
    (pss_cons (ps_expr (pe_bm0 PySem.F.plainAttrs_list PySem.F.slot_list_clear PySem.F.type_list_clear mt_clear (pv 7)))
    (pss_cons (ps_if (PW.pt (pw_or (pt_not (pt_truth (pe_d D_l_is_kept hr pass0 (pa_cons (pv 8) (pa_cons (pv 2) pa_nil))) (by intro _; rfl))) (pw_or1 (pt_not (pt_truth (pe_d D_l_is_alone hr pass0 (pa_cons (pv 8) (pa_cons (pv 2) (pa_cons (pv 5) pa_nil)))) (by intro _; rfl)))))) (pss_one (ps_ret pe_bl)) pss_nil)
    (pss_cons (ps_if (PW.pt (pw_or (pt_not (pt_cmpR (op_eqOwn D_Wire_eq hr pass0) (pv 8) (pe_d D_l_wire hr pass0 (pa_cons (pv 2) pa_nil)) (nomark _))) (pw_or1 (pt_cmpR (op_neOwn D_Wire_eq hne hmr hr pass0) (pv 8) (pe_d D_l_wire hr pass0 (pa_cons (pv 2) pa_nil)) (nomark _))))) (pss_one (ps_ret pe_bl)) pss_nil)
    (pss_cons (ps_set (i := 9) sc_law.nd rfl (.inl rfl) (pe_d D_l_wire hr pass0 (pa_cons (pv 4) pa_nil)))
    (pss_cons (ps_if (PW.pt (pw_or (pt_cmpR op_ne (pe_cmpR (op_eqOwn D_Wire_eq hr pass0) (pv 8) (pv 9) (nomark _)) (pe_cmpR (op_eqD hu2) (pv 2) (pv 4) (nomark _)) (nomark _)) (pw_or1 (pt_cmpR op_ne (pe_cmpR (op_neOwn D_Wire_eq hne hmr hr pass0) (pv 8) (pv 9) (nomark _)) (pe_cmpR (op_neD hu2) (pv 2) (pv 4) (nomark _)) (nomark _))))) (pss_one (ps_ret pe_bl)) pss_nil)
    (pss_cons (ps_for PassesOwn.never rfl (pi_list (pe_lst (pa_cons (pe_op op_sub (pe_un un_neg pe_int) (pe_ix ix_list (pv 3) pe_int (fun _ _ => rfl))) (pa_cons (pv 1) (pa_cons (pe_op op_add (pv 1) (pe_ix ix_list (pv 3) pe_int (fun _ _ => rfl))) pa_nil))))) (pg_name (i := 10) sc_law.nd rfl (.inl rfl)) (pss_one (ps_if (pt_not (pt_truth (pe_d D_l_no_place hr pass0 (pa_cons (pv 8) (pa_cons (pv 10) pa_nil))) (by intro _; rfl))) (pss_one (ps_ret pe_bl)) pss_nil)))
    (pss_cons (ps_asg (pe_d D_l_fault hr pass0 (pa_cons (pv 5) (pa_cons (pv 1) (pa_cons (pe_ix ix_list (pv 3) pe_int (fun _ _ => rfl)) (pa_cons (pe_ix ix_list (pv 3) pe_int (fun _ _ => rfl)) (pa_cons (pe_ix ix_list (pv 3) pe_int (fun _ _ => rfl)) pa_nil)))))) (pg_tup rfl (pgs_cons (pg_name (i := 11) sc_law.nd rfl (.inl rfl)) (pgs_cons (pg_name (i := 12) sc_law.nd rfl (.inl rfl)) pgs_nil))))
    (pss_cons (ps_if (PW.pt (pw_or (pt_cmpR (op_neD hu2) (pe_d D_l_refused hr pass0 (pa_cons (pv 1) (pa_cons (pv 11) pa_nil))) (pe_tup (pa_cons pe_str (pa_cons (pv 12) pa_nil))) (nomark _)) (pw_or1 (pt_cmpR (op_neD hu2) (pe_d D_l_refused hr pass0 (pa_cons (pe_un un_neg (pe_ix ix_list (pv 3) pe_int (fun _ _ => rfl))) (pa_cons (pv 11) pa_nil))) (pe_tup (pa_cons pe_str (pa_cons (pe_un un_neg (pe_ix ix_list (pv 3) pe_int (fun _ _ => rfl))) pa_nil))) (nomark _))))) (pss_one (ps_ret pe_bl)) pss_nil)
    (pss_one (ps_ret (pe_cmpR (op_eqD hu2) (pe_d D_l_taken hr pass0 (pa_cons (pv 1) (pa_cons (pv 5) pa_nil))) (pe_tup (pa_cons pe_str pa_nil)) (nomark _)))))))))))))))))))))), ?_⟩
    -- size
    refine ⟨_, rfl, a, ns, 0, rfl, hS, fun z0 => ⟨_, _, rfl, rfl, (by show (0 : Int) < 96; decide), (z0 % 96).toNat, congrArg (fun v => [v]) (nat_int (Int.emod_nonneg _ (by decide))), fun n n1 n60 => ?_⟩⟩
    -- images
    refine ⟨_, rfl, a, ns, 1, rfl, hS, fun z1 => ⟨_, rfl, z1, n, rfl, by omega, fun im p1 H1 s1 np1 hp1 hI hn => ?_⟩⟩
    subst hn
    -- row
    refine ⟨_, rfl, a, ns, 3, rfl, s1.seq hS, fun z3 => ⟨_, _, rfl, rfl, ⟨by decide, by decide, by decide⟩, by show 7 ≤ sizeLine; decide, fun L1 nL1 => ?_⟩⟩
    have sL1 := same_upd (o := .lst [.int 2, .int 60, .int 2, .int 3, .int 5, .int 60, .int (10 ^ (6 : Int).toNat)]) nL1
    refine ⟨z3, L1, [2, 60, 2, 3, 5, 60, 1000000], rfl, SqL.of upd_same, by decide, by decide, fun ds row0 H2 s2 nr0 hr0 hl7 hb => ?_⟩
    obtain ⟨d0, d1, d2, d3, d4, d5, d6, rfl⟩ : ∃ a b c d e f g, ds = [a, b, c, d, e, f, g] := match ds, hl7 with | [a, b, c, d, e, f, g], _ => ⟨a, b, c, d, e, f, g, rfl⟩
    clear hb hl7
    have t2 : Same H H2 := s1.trans (sL1.trans s2)
    have hp12 := s2 _ _ (sL1 _ _ hp1)
    clear sL1 s2 nL1
    -- other
    refine ⟨_, rfl, a, ns, 2, rfl, t2.seq hS, fun z2 => ⟨_, rfl, z2, im.length, rfl, by omega, fun om p2 H3 s3 np2 hp2 hO ho => ?_⟩⟩
    have t3 := t2.trans s3
    have hp13 := s3 _ _ hp12
    have hr3 := s3 _ _ hr0
    refine ⟨fun σ H' => ∃ (p : Addr) (jm : List Nat), σ = [some (.ref a), some (nv im.length), some (.ref p1), some (.ref row0), some (.ref p), none, none, none, none, none, none, none, none] ∧ Same H3 H' ∧ H' p = some (.lst (jm.map nv)) ∧ IsPerm jm ∧ 1 ≤ jm.length ∧ jm.length ≤ 60, ?_, ?_⟩
    · refine ⟨_, rfl, row0, _, 3, nv d3, rfl, rfl, SqL.of hr3, atI_nat (j := 3) rfl, rfl, _, rfl, ?_⟩
      have e3 : decide (nv d3 = V.int 0) = decide (d3 = 0) := dec_nv d3 0
      rw [e3]
      by_cases c3 : d3 = 0
      · refine decT c3 ?_
        refine ⟨_, rfl, _, _, rfl, rfl, _, rfl, ?_⟩
        by_cases c4 : im.length < 60
        · refine decT (by omega) ?_
          refine ⟨_, rfl, _, rfl, by show 1 ≤ sizeLine; decide, fun p np => ?_⟩
          have sp := same_upd (o := .lst [nv im.length]) np
          refine ⟨p1, p, _, _, rfl, rfl, sp _ _ hp13, upd_same, Nat.le_of_lt (small64 (by rw [List.length_map]; show _ + 1 ≤ _; omega)), fun p4 np4 => ?_⟩
          refine ⟨p4, im ++ [im.length], rfl, sp.trans (same_upd np4), by rw [upd_same, List.map_append]; rfl, isPerm_snoc hI, by rw [List.length_append]; show 1 ≤ _ + 1; omega, by rw [List.length_append]; show _ + 1 ≤ 60; omega⟩
        · refine decF (by omega) ?_
          exact ⟨p2, om, rfl, Same.refl _, hp2, hO, by omega, by omega⟩
      · refine decF c3 ?_
        exact ⟨p2, om, rfl, Same.refl _, hp2, hO, by omega, by omega⟩
    rintro σ H4 ⟨p4, jm, rfl, s4, hp4, hJ, j1, j60⟩
    have t4 := t3.trans s4
    have hp14 := s4 _ _ hp13
    have hr4 := SqL.of (K := K) (s4 _ _ hr3)
    clear s4 s3 t3 t2 s1 hp1 hp12 hp13 hr0 hr3
    -- told
    refine ⟨_, rfl, _, rfl, row0, _, 0, nv d0, rfl, rfl, hr4, atI_nat (j := 0) rfl, rfl, _, rfl, row0, _, 1, nv d1, rfl, rfl, hr4, atI_nat (j := 1) rfl, _, rfl, row0, _, 2, nv d2, rfl, rfl, hr4, atI_nat (j := 2) rfl, rfl, ?_⟩
    refine ⟨p1, im, _, _, d1, rfl, SqL.of hp14, hI, n60, fun o as rs H5 s5 no nas hoL hgR R => ?_⟩
    -- handed
    refine ⟨_, rfl, o, rfl, ⟨_, SqL.of hoL⟩, fun D nD => ?_⟩
    refine lc_list (K := K) (a := o) (xs := as.map V.ref) (fun i H6 => ∃ bs : List Addr, Same H5 H6 ∧ H6 D = some (.lst (bs.map V.ref)) ∧ bs.length = i ∧ (∀ b ∈ bs, H5 b = none ∧ b ≠ D) ∧ Rg H6 bs (rs.take i))
      ⟨[], same_upd nD, upd_same, rfl, (by intro b h; cases h), Rg.nil⟩ (fun i H6 _ ⟨_, s, _⟩ => SqL.of (s _ _ hoL)) ?_ ?_
    · rintro i y H6 hi ⟨bs, s6, hD, bl, bn, bg⟩
      obtain ⟨b, hb, rfl⟩ : ∃ b, as[i]? = some b ∧ y = V.ref b := by
        rw [List.getElem?_map] at hi
        cases e : as[i]? with
        | none => rw [e] at hi; cases hi
        | some b => rw [e] at hi; exact ⟨b, rfl, (Option.some.inj hi).symm⟩
      have hil : i < rs.length := by rw [← hgR.len]; exact (List.getElem?_eq_some_iff.mp hb).1
      obtain ⟨r, hr'⟩ : ∃ r, rs[i]? = some r := ⟨_, List.getElem?_eq_getElem hil⟩
      have hbr := hgR.at_ i b r hb hr'
      refine ⟨rfl, yesT ?_⟩
      refine ⟨_, rfl, b, r.map nv, rfl, .inl (SqL.of (s6 _ _ hbr)), fun l nl => ?_⟩
      have few := R.few
      have fl : rs.length ≤ rs.flatten.length := len_flat_ge R.ne
      have Dl : D ≠ l := ne_of_none hD nl
      refine ⟨_, same_upd nl _ _ hD, small64 (by rw [List.length_map]; omega), bs ++ [l], mutS (s6.trans (same_upd nl)) nD, by rw [upd_same, List.map_append]; rfl, by rw [List.length_append, bl]; rfl, ?_, ?_⟩
      · intro b' hb'
        rcases List.mem_append.mp hb' with h | h
        · exact bn b' h
        · rw [List.mem_singleton.mp h]
          exact ⟨s6.free nl, Dl.symm⟩
      · rw [List.take_add_one, hr']
        refine Rg.upd (Rg.snoc (bg.mono (same_upd nl)) upd_same) fun hm => ?_
        rcases List.mem_append.mp hm with h | h
        · exact (bn D h).2 rfl
        · exact Dl (List.mem_singleton.mp h)
    · rintro H6 ⟨bs, s6, hD, bl, bn, bg⟩
      rw [List.length_map, hgR.len, List.take_length] at bg
      rw [List.length_map] at bl
      -- the wire
      refine ⟨_, rfl, _, rfl, fun x dx nx ndx nex => ?_⟩
      have sM : Same H6 (upd (upd H6 dx (.own x)) x (.ins C dx [])) := (same_upd ndx).trans (same_upd (by rw [upd_ne nex.symm]; exact nx))
      refine ⟨x, dx, D, im.length, ap im, bs, rs, rfl, upd_same, SqL.of (sM _ _ hD), bg.mono sM, R, n1, by omega, fun l H7 k nl hx hl => ⟨rfl, ?_⟩⟩
      have s7 : Same H6 H7 := Same.made nx ndx k
      have nxl : H6 x = none := nx
      rw [im_eq] at hl
      have hW : WireAt C H7 x im := ⟨l, ⟨dx, hx⟩, hl⟩
      have xD : x ≠ D := fun e => by rw [e, hD] at nx; cases nx
      have hD7 := s7 _ _ hD
      have bg7 := bg.mono s7
      have ho7 := s7 _ _ (s6 _ _ hoL)
      have hg7 := (hgR.mono s6).mono s7
      have s47 : Same H4 H7 := (s5.trans s6).trans s7
      have hp17 := s47 _ _ hp14
      have x4 : H4 x = none := (s5.trans s6).free nx
      have b4 : ∀ b ∈ bs, H4 b = none ∧ H5 b = none ∧ b ≠ D := fun b hb => ⟨s5.free (bn b hb).1, bn b hb⟩
      have l6 : H6 l = none := by
        cases z : H6 l with
        | none => rfl
        | some u =>
          have := sM _ _ z
          rw [nl] at this
          cases this
      have bH6 : ∀ b ∈ bs, ∃ u, H6 b = some u := fun b hb => by
        obtain ⟨i, hi⟩ := List.getElem?_of_mem hb
        have il : i < rs.length := by rw [← bg.len]; exact (List.getElem?_eq_some_iff.mp hi).1
        exact ⟨_, bg.at_ i b _ hi (List.getElem?_eq_getElem il)⟩
      have xb : x ∉ bs := fun h => by obtain ⟨u, hu⟩ := bH6 x h; rw [nx] at hu; cases hu
      have lb : l ∉ bs := fun h => by obtain ⟨u, hu⟩ := bH6 l h; rw [l6] at hu; cases hu
      have lD : l ≠ D := fun e => by rw [e, hD] at l6; cases l6
      have D4 : H4 D = none := s5.free nD
      have D5 : H5 D = none := nD
      have s57 := s6.trans s7
      clear k sM nl nx ndx nex s6 hD bg bn
      conv in (List.set _ 7 _) => change ([some (V.ref a), some (nv im.length), some (V.ref p1), some (V.ref row0), some (V.ref p4), some (V.ref o), none, some (V.ref D), none, none, none, none, none] : List (Option V))
      -- the wire is the map
      refine ⟨_, rfl, _, rfl, _, _, dpRs (SqL.of hD7) bg7, dpRs (SqL.of ho7) hg7, shRs _, shRs _, ?_⟩
      rw [eqRs]
      refine ⟨_, rfl, iteF ?_⟩
      refine ⟨_, rfl, _, rfl, x, p1, im, rfl, hW, SqL.of hp17, n60, fun H8 s8 => ⟨true, rfl, iteF ?_⟩⟩
      have hW8 := hW.mono s8
      obtain ⟨l2, ⟨dx2, ix8⟩, il8⟩ := id hW8
      have w2 := wF_no im.length l2 (m := "rings") (by decide +kernel) (by decide +kernel)
      refine ⟨_, rfl, x, dx2, _, rfl, ix8, w2, x, im, rfl, hW8, hI, n60, fun o9 as9 H9 s9 no9 nas9 hoa9 hnd9 ho9 hg9 => ?_⟩
      refine ⟨_, rfl, p1, im, rfl, SqL.of (s9 _ _ (s8 _ _ hp17)), hI, by omega, fun o10 as10 H10 s10 no10 nas10 hoa10 hnd10 ho10 hg10 => ?_⟩
      refine ⟨_, _, dpRs (SqL.of (s10 _ _ ho9)) (hg9.mono s10), dpRs (SqL.of ho10) hg10, shRs _, shRs _, ?_⟩
      rw [eqRs]
      refine ⟨_, rfl, iteF ?_⟩
      -- the lists that were handed are emptied
      have s710 := s8.trans (s9.trans s10)
      have hD10 := s710 _ _ hD7
      have bg10 := bg7.mono s710
      have ho10' := s710 _ _ ho7
      have hg10' := hg7.mono s710
      have hW10 := hW.mono s710
      have s410 := s47.trans s710
      have s510 := s57.trans s710
      refine ⟨_, rfl, D, rfl, ⟨_, SqL.of hD10⟩, for_list (K := K) (a := D) (xs := bs.map V.ref) (fun i σ H' => ∃ v6 : Option V, σ = [some (V.ref a), some (nv im.length), some (V.ref p1), some (V.ref row0), some (V.ref p4), some (V.ref o), v6, some (V.ref D), some (V.ref x), none, none, none, none] ∧
          (∀ c u, H10 c = some u → c ∉ bs → H' c = some u) ∧ ∀ b ∈ bs, ∃ ys, H' b = some (.lst ys))
        ⟨none, rfl, fun c u h _ => h, fun b hb => ?_⟩ (fun i σ H' _ ⟨_, _, h, _⟩ => SqL.of (h _ _ hD10 fun hm => (b4 D hm).2.2 rfl)) ?_ ?_⟩
      · obtain ⟨i, hi⟩ := List.getElem?_of_mem hb
        have il : i < rs.length := by rw [← bg10.len]; exact (List.getElem?_eq_some_iff.mp hi).1
        exact ⟨_, bg10.at_ i b _ hi (List.getElem?_eq_getElem il)⟩
      · rintro i y σ H' hi ⟨v6, rfl, hk, hz⟩
        obtain ⟨b, hb, rfl⟩ : ∃ b, bs[i]? = some b ∧ y = V.ref b := by
          rw [List.getElem?_map] at hi
          cases e : bs[i]? with
          | none => rw [e] at hi; cases hi
          | some b => rw [e] at hi; exact ⟨b, rfl, (Option.some.inj hi).symm⟩
        have hbm := List.mem_of_getElem? hb
        obtain ⟨ys, hys⟩ := hz b hbm
        refine ⟨_, rfl, .inl ⟨rfl, _, SqL.of hys⟩, b, _, rfl, rfl, hys, _, rfl, fun c u hc hn => ?_, fun b' hb' => ?_⟩
        · rw [upd_ne (fun e => hn (by rw [e]; exact hbm))]
          exact hk c u hc hn
        · by_cases e : b' = b
          · exact ⟨[], by rw [e, upd_same]⟩
          · obtain ⟨ys', h'⟩ := hz b' hb'
            exact ⟨ys', by rw [upd_ne e]; exact h'⟩
      · rintro σ H11 ⟨v6, rfl, hk, hz⟩
        have hD11 := hk _ _ hD10 fun hm => (b4 D hm).2.2 rfl
        refine ⟨_, rfl, .inl ⟨rfl, _, SqL.of hD11⟩, D, _, rfl, rfl, hD11, ?_⟩
        -- nothing else has changed
        have up : ∀ c u, H10 c = some u → c ∉ bs → c ≠ D → (upd H11 D (.lst [])) c = some u := fun c u h1 h2 h3 => by rw [upd_ne h3]; exact hk c u h1 h2
        have s4E : Same H4 (upd H11 D (.lst [])) := fun c u h => up c u (s410 _ _ h) (fun hm => by rw [(b4 c hm).1] at h; cases h) (fun e => by rw [e, D4] at h; cases h)
        have s5E : Same H5 (upd H11 D (.lst [])) := fun c u h => by
          have h7 : H10 c = some u := s510 _ _ h
          exact up c u h7 (fun hm => by rw [(b4 c hm).2.1] at h; cases h) (fun e => by rw [e, D5] at h; cases h)
        have hxE := up x _ (s710 _ _ hx) xb xD
        have hlE := up l _ (s710 _ _ hl) lb lD
        have hWE : WireAt C (upd H11 D (.lst [])) x im := ⟨l, ⟨dx, hxE⟩, hlE⟩
        generalize upd H11 D (.lst []) = HE at s4E s5E hxE hlE hWE ⊢
        clear up
        have hpE := s4E _ _ hp14
        have hoE := s5E _ _ hoL
        have hgE := hgR.mono s5E
        have hrE := s4E.seq hr4
        have hp4E := s4E _ _ hp4
        -- kept, alone
        refine ⟨_, rfl, _, rfl, x, p1, im, rfl, hWE, SqL.of hpE, hI, n60, fun H13 s13 => ⟨true, rfl, iteF ?_⟩⟩
        refine ⟨_, rfl, _, rfl, _, rfl, x, p1, o, im, _, rfl, hWE.mono s13, s13 _ _ hpE, s13 _ _ hoE, hI, n60, fun H14 s14 => ⟨true, rfl, iteF ?_⟩⟩
        have sE := s13.trans s14
        -- equal to a wire of the same map
        refine ⟨_, rfl, _, rfl, p1, im, rfl, SqL.of (sE _ _ hpE), hI, n1, by omega, fun y1 m1 H15 s15 ny1 nm1 hy1 => ?_⟩
        have hS15 := sE.trans s15
        obtain ⟨⟨dy1, iy1⟩, jy1⟩ := id hy1
        refine ⟨x, dx, _, .ref C, rfl, hS15 _ _ hxE, .base (.ins iy1 T.cl T.cla T.hget T.htk T.hmro), nfC, x, im, .ref y1, rfl, hWE.mono hS15, .inl ⟨y1, im, rfl, ⟨m1, hy1⟩, fun H16 s16 => ⟨true, congrArg V.bl (decide_eq_true rfl), _, rfl, iteF ?_⟩⟩⟩
        have hS16 := hS15.trans s16
        refine ⟨_, rfl, _, rfl, p1, im, rfl, SqL.of (hS16 _ _ hpE), hI, n1, by omega, fun y2 m2 H17 s17 ny2 nm2 hy2 => ?_⟩
        have hS17 := hS16.trans s17
        obtain ⟨⟨dy2, iy2⟩, jy2⟩ := id hy2
        refine ⟨x, dx, _, .ref C, rfl, hS17 _ _ hxE, .base (.ins iy2 T.cl T.cla T.hget T.htk T.hmro), nfC, x, im, .ref y2, rfl, hWE.mono hS17, .inl ⟨y2, im, rfl, ⟨m2, hy2⟩, fun H18 s18 => ⟨true, congrArg V.bl (decide_eq_true rfl), _, rfl, iteF ?_⟩⟩⟩
        have hS18 := hS17.trans s18
        -- the second wire
        refine ⟨_, rfl, p4, jm, rfl, SqL.of (hS18 _ _ hp4E), hJ, j1, by omega, fun y3 m3 H19 s19 ny3 nm3 hy3 => ?_⟩
        have hS19 := hS18.trans s19
        obtain ⟨⟨dy3, iy3⟩, jy3⟩ := id hy3
        refine ⟨_, rfl, _, rfl, x, dx, _, .ref C, rfl, hS19 _ _ hxE, .base (.ins iy3 T.cl T.cla T.hget T.htk T.hmro), nfC, x, im, .ref y3, rfl, hWE.mono hS19, .inl ⟨y3, jm, rfl, ⟨m3, hy3⟩, fun H20 s20 => ⟨_, rfl, ?_⟩⟩⟩
        have hS20 := hS19.trans s20
        refine ⟨_, rfl, _, rfl, _, _, dpI (SqL.of (hS20 _ _ hpE)), dpI (SqL.of (hS20 _ _ hp4E)), shI _, shI _, ?_⟩
        rw [eqI]
        refine ⟨rfl, _, rfl, ?_⟩
        have e3 : (!decide (V.bl (decide (im = jm) != false) = V.bl (decide (im = jm)))) = false := by
          have : (decide (im = jm) != false) = decide (im = jm) := by cases decide (im = jm) <;> rfl
          rw [this, decide_eq_true rfl]
          rfl
        rw [e3]
        refine iteF ?_
        conv in (List.set _ 9 _) => change ([some (V.ref a), some (nv im.length), some (V.ref p1), some (V.ref row0), some (V.ref p4), some (V.ref o), v6, some (V.ref D), some (V.ref x), some (V.ref y3), none, none, none] : List (Option V))
        refine ⟨_, rfl, _, rfl, x, dx, _, .ref C, rfl, hS20 _ _ hxE, .base (.ins (s20 _ _ iy3) T.cl T.cla T.hget T.htk T.hmro), nfC, x, im, .ref y3, rfl, hWE.mono hS20, .inl ⟨y3, jm, rfl, WireAt.mono ⟨m3, hy3⟩ s20, fun H21 s21 => ⟨_, rfl, ?_⟩⟩⟩
        have hS21 := hS20.trans s21
        refine ⟨_, rfl, _, rfl, _, _, dpI (SqL.of (hS21 _ _ hpE)), dpI (SqL.of (hS21 _ _ hp4E)), shI _, shI _, ?_⟩
        rw [eqI]
        refine ⟨rfl, _, rfl, ?_⟩
        have e4 : (!decide (V.bl (decide (im = jm) != true) = V.bl (!decide (im = jm)))) = false := by
          have : (decide (im = jm) != true) = !decide (im = jm) := by cases decide (im = jm) <;> rfl
          rw [this, decide_eq_true rfl]
          rfl
        rw [e4]
        refine iteF ?_
        -- no places
        have hr21 := hS21.seq hrE
        refine ⟨_, rfl, _, rfl, row0, _, 6, nv d6, rfl, rfl, hr21, atI_nat (j := 6) rfl, _, _, rfl, rfl, _, rfl, _, rfl, _, rfl, row0, _, 6, nv d6, rfl, rfl, hr21, atI_nat (j := 6) rfl, _, _, rfl, rfl, by show 3 ≤ sizeLine; decide, fun L3 nL3 => ?_⟩
        have sL3 := same_upd (o := .lst [.int (-1 - (d6 : Int)), nv im.length, .int ((im.length : Int) + (d6 : Int))]) nL3
        have hL3 : (upd H21 L3 (.lst [.int (-1 - (d6 : Int)), nv im.length, .int ((im.length : Int) + (d6 : Int))])) L3 = some (.lst [.int (-1 - (d6 : Int)), nv im.length, .int ((im.length : Int) + (d6 : Int))]) := upd_same
        refine ⟨L3, rfl, ⟨_, SqL.of hL3⟩, for_list (K := K) (a := L3) (xs := [.int (-1 - (d6 : Int)), nv im.length, .int ((im.length : Int) + (d6 : Int))]) (fun i σ H' => ∃ v10 : Option V, σ = [some (V.ref a), some (nv im.length), some (V.ref p1), some (V.ref row0), some (V.ref p4), some (V.ref o), v6, some (V.ref D), some (V.ref x), some (V.ref y3), v10, none, none] ∧
            Same (upd H21 L3 (.lst [.int (-1 - (d6 : Int)), nv im.length, .int ((im.length : Int) + (d6 : Int))])) H') ⟨none, rfl, fun _ _ h => h⟩ (fun i σ H' _ ⟨_, _, s⟩ => SqL.of (s _ _ hL3)) ?_ ?_⟩
        · intro i y σ H' hi hh
          obtain ⟨v10, rfl, s22⟩ := hh
          have hz : ∃ z : Int, y = .int z ∧ (z < 0 ∨ (im.length : Int) ≤ z) := by
            have hm := List.mem_of_getElem? hi
            simp only [List.mem_cons, List.not_mem_nil, or_false] at hm
            rcases hm with rfl | rfl | rfl
            · exact ⟨_, rfl, .inl (by omega)⟩
            · exact ⟨_, rfl, .inr (Int.le_refl _)⟩
            · exact ⟨_, rfl, .inr (by omega)⟩
          obtain ⟨z, rfl, hz⟩ := hz
          exact ⟨_, rfl, _, rfl, x, im, z, rfl, hWE.mono (hS21.trans (sL3.trans s22)), hz, fun H'' s'' => ⟨true, rfl, iteF ⟨_, rfl, s22.trans s''⟩⟩⟩
        · rintro σ H22 ⟨v10, rfl, s22⟩
          have hS22 := hS21.trans (sL3.trans s22)
          have hr22 := hS22.seq hrE
          refine ⟨_, rfl, _, rfl, _, rfl, row0, _, 4, nv d4, rfl, rfl, hr22, atI_nat (j := 4) rfl, _, rfl, row0, _, 5, nv d5, rfl, rfl, hr22, atI_nat (j := 5) rfl, _, rfl, row0, _, 6, nv d6, rfl, rfl, hr22, atI_nat (j := 6) rfl, ?_⟩
          refine ⟨o, im.length, d4, d5, d6, ap im, as, rs, rfl, hS22 _ _ hoE, hgE.mono hS22, R, n1, n60, fun TT o2 bs2 qs j H23 s23 hT2 hSq hgI hBad => ?_⟩
          have hS23 := hS22.trans s23
          have hr23 := hS23.seq hrE
          refine ⟨TT, _, rfl, SqT.of hT2, rfl, _, _, rfl, _, _, rfl, rfl, ?_⟩
          -- refused
          refine ⟨_, rfl, _, rfl, o2, (im.length : Int), rfl, .inr ⟨im.length, bs2, qs, j, rfl, n1, hSq, hgI, hBad, fun T1 H24 s24 nT1 hT1 => ?_⟩⟩
          refine ⟨_, rfl, by show 2 ≤ sizeLine; decide, fun T2 nT2 => ?_⟩
          have sT2 := same_upd (o := .tup [.str "ring", nv j]) nT2
          refine ⟨_, _, dp2 (sT2 _ _ hT1), dp2 (i := (j : Int)) upd_same, sh2 (by decide +kernel) _, sh2 (by decide +kernel) _, ?_⟩
          rw [eq2]
          refine ⟨_, rfl, iteF ?_⟩
          have s25 := s24.trans sT2
          have hr25 := s25.seq hr23
          refine ⟨_, rfl, row0, _, 6, nv d6, rfl, rfl, hr25, atI_nat (j := 6) rfl, _, rfl, _, rfl, o2, -(d6 : Int), rfl, .inl ⟨by omega, fun T3 H26 s26 nT3 hT3 => ?_⟩⟩
          have s26' := s25.trans s26
          refine ⟨_, rfl, row0, _, 6, nv d6, rfl, rfl, s26'.seq hr23, atI_nat (j := 6) rfl, _, rfl, by show 2 ≤ sizeLine; decide, fun T4 nT4 => ?_⟩
          have sT4 := same_upd (o := .tup [.str "size", .int (-(d6 : Int))]) nT4
          refine ⟨_, _, dp2 (sT4 _ _ hT3), dp2 (i := -(d6 : Int)) upd_same, sh2 (by decide +kernel) _, sh2 (by decide +kernel) _, ?_⟩
          rw [eq2]
          refine ⟨_, rfl, iteF ?_⟩
          -- taken
          have hS27 := hS23.trans (s26'.trans sT4)
          refine ⟨_, rfl, _, rfl, o, im.length, ap im, as, rs, rfl, SqL.of (hS27 _ _ hoE), hgE.mono hS27, R, n1, by omega, fun T5 H28 s28 nT5 hT5 => ?_⟩
          refine ⟨by show 1 ≤ sizeLine; decide, fun T6 nT6 => ?_⟩
          have sT6 := same_upd (o := .tup [.str "taken"]) nT6
          refine ⟨_, _, dp1 (sT6 _ _ hT5), dp1 upd_same, sh1 (by decide +kernel), sh1 (by decide +kernel), ?_⟩
          rw [eq1]
          exact q _
end
section
variable {P : Program} {w : World} {K : PySem.W.Frag} {mg : Str → Option Value} {base : Heap} {C : Addr}
abbrev s_NoSize_init : Stmt := inClass (top 4) 0
theorem sc_NoSize_init : FnScope ["self", "size"] ["self", "size"] (defScope s_NoSize_init) := ⟨rfl, rfl, rfl, by decide +kernel, rfl, by decide +kernel, by decide +kernel⟩

theorem ok_NoSize_init {f : Addr} {fd : FuncData} (F : Fun K "__init__" "NoSize.__init__" s_NoSize_init f fd) (T : ErrC K C) (hno : PySem.W.findIn K (.ref C) "size" = some none) : FnOk P w K mg base CX0 1 f fd ["self", "size"] (spErr C "size") := by
  refine F.ok sc_NoSize_init (fun vs H Q E h => ?_) (fun cdv A outer s H vs Q E hr h => ?_)
  · obtain ⟨a, v, rfl, _⟩ := h; rfl
  · obtain ⟨a, v, rfl, ha, q⟩ := h
    exact ⟨_, pss_one (ps_ost (pv 0) (pv 1)), _, rfl, _, rfl, a, C, rfl, T.oex, hno, .inl ⟨ha, fun dx n ne => q dx n ne⟩⟩
abbrev s_NoRing_init : Stmt := inClass (top 5) 0
theorem sc_NoRing_init : FnScope ["self", "index"] ["self", "index"] (defScope s_NoRing_init) := ⟨rfl, rfl, rfl, by decide +kernel, rfl, by decide +kernel, by decide +kernel⟩

theorem ok_NoRing_init {f : Addr} {fd : FuncData} (F : Fun K "__init__" "NoRing.__init__" s_NoRing_init f fd) (T : ErrC K C) (hno : PySem.W.findIn K (.ref C) "index" = some none) : FnOk P w K mg base CX0 1 f fd ["self", "index"] (spErr C "index") := by
  refine F.ok sc_NoRing_init (fun vs H Q E h => ?_) (fun cdv A outer s H vs Q E hr h => ?_)
  · obtain ⟨a, v, rfl, _⟩ := h; rfl
  · obtain ⟨a, v, rfl, ha, q⟩ := h
    exact ⟨_, pss_one (ps_ost (pv 0) (pv 1)), _, rfl, _, rfl, a, C, rfl, T.oex, hno, .inl ⟨ha, fun dx n ne => q dx n ne⟩⟩
abbrev s_NoPlace_init : Stmt := inClass (top 6) 0
theorem sc_NoPlace_init : FnScope ["self", "place"] ["self", "place"] (defScope s_NoPlace_init) := ⟨rfl, rfl, rfl, by decide +kernel, rfl, by decide +kernel, by decide +kernel⟩

theorem ok_NoPlace_init {f : Addr} {fd : FuncData} (F : Fun K "__init__" "NoPlace.__init__" s_NoPlace_init f fd) (T : ErrC K C) (hno : PySem.W.findIn K (.ref C) "place" = some none) : FnOk P w K mg base CX0 1 f fd ["self", "place"] (spErr C "place") := by
  refine F.ok sc_NoPlace_init (fun vs H Q E h => ?_) (fun cdv A outer s H vs Q E hr h => ?_)
  · obtain ⟨a, v, rfl, _⟩ := h; rfl
  · obtain ⟨a, v, rfl, ha, q⟩ := h
    exact ⟨_, pss_one (ps_ost (pv 0) (pv 1)), _, rfl, _, rfl, a, C, rfl, T.oex, hno, .inl ⟨ha, fun dx n ne => q dx n ne⟩⟩
end
/-! ### the classes in the written part -/
abbrev veT : List Value := [.type "ValueError", .type "Exception", .type "BaseException", .type "object"]
def ErrAt (K : PySem.W.Frag) (C W : Addr) : Prop := ∃ nm q N bs sn sub ab col dd k0 k1 k2 k3 k5, K.lookup C = some (excClassObj nm q C N bs (.ref W :: veT) true sn sub ab col dd k0 k1 k2 k3 k5 "ValueError.__new__")
def ErrAt' (K : PySem.W.Frag) (C : Addr) : Prop := ∃ nm q N bs bm sn sub ab col dd k0 k1 k2 k3 k5, K.lookup C = some (excClassObj nm q C N bs bm true sn sub ab col dd k0 k1 k2 k3 k5 "ValueError.__new__")
section
variable {K : PySem.W.Frag} {C D W : Addr}
theorem ErrAt.to (h : ErrAt K C W) : ErrAt' K C := by
  obtain ⟨nm, q, N, bs, sn, sub, ab, col, dd, k0, k1, k2, k3, k5, e⟩ := h
  exact ⟨nm, q, N, bs, _, sn, sub, ab, col, dd, k0, k1, k2, k3, k5, e⟩
theorem ErrAt'.ok (h : ErrAt' K C) : ((PySem.W.clsIn K C).isSome && PySem.W.typeIn K (.ref C) == some (.type "type")) = true := by
  obtain ⟨nm, q, N, bs, bm, sn, sub, ab, col, dd, k0, k1, k2, k3, k5, e⟩ := h
  have ty : PySem.W.typeIn K (.ref C) = some (.type "type") := by
    show (K.lookup C).map (·.cls) = _
    rw [e]
    rfl
  rw [ty]
  unfold PySem.W.clsIn
  rw [e]
  simp
theorem ErrAt.sub (h : ErrAt K C W) (v : Value) : PySem.W.subIn K (.ref C) v = some ((Value.ref C :: .ref W :: veT).contains v) := by
  obtain ⟨nm, q, N, bs, sn, sub, ab, col, dd, k0, k1, k2, k3, k5, e⟩ := h
  show PySem.W.mroIn K C v = _
  unfold PySem.W.mroIn PySem.W.clsIn
  rw [e]
  rfl
theorem ErrAt.errC (h : ErrAt K C W) (sa : PySem.W.findIn K (.ref C) "__setattr__" = some (some (.builtin "object.__setattr__"))) (ga : PySem.W.findIn K (.ref C) "__getattribute__" = some (some (.builtin "BaseException.__getattribute__")))
    (gg : PySem.W.findIn K (.ref C) "__getattr__" = some none) (cl : PySem.W.findIn K (.ref C) "__class__" = some (some (.builtin "object.__class__"))) (kc : PySem.W.keepIn K (.ref C) = true)
    (hget : PySem.W.specialIn K (.builtin "object.__class__") "__get__" = some (some (.builtin "getset_descriptor.__get__"))) (htk : PySem.W.takesIn K (.builtin "object.__class__") = some true) : ErrC K C := by
  have b : PySem.W.subIn K (.ref C) (.type "BaseException") = some true := by
    rw [h.sub]
    simp
  have o : PySem.W.mroIn K C (.type "object") = some true := by
    have z := h.sub (.type "object")
    have e : (Value.ref C :: .ref W :: veT).contains (.type "object") = true := by simp
    rw [e] at z
    exact z
  obtain ⟨nm, q, N, bs, sn, sub, ab, col, dd, k0, k1, k2, k3, k5, e⟩ := id h
  have hd : PySem.W.hasDictIn K C = true := by unfold PySem.W.hasDictIn PySem.W.clsIn; rw [e]; rfl
  have ty : PySem.W.typeIn K (.ref C) = some (.type "type") := by show (K.lookup C).map (·.cls) = _; rw [e]; rfl
  exact ⟨⟨⟨nm, q, N, bs, _, sn, sub, ab, col, dd, k0, k1, k2, k3, k5, e, (by show PySem.HandSPX.refsVE veT = true; decide +kernel)⟩, sa, b, ty, kc⟩, ⟨ga, gg, b, hd⟩, ⟨ga, gg, b, hd, cl, hget, htk, o⟩⟩
theorem ErrAt.kitV (h : ErrAt K C W) : PySem.W.kitOne K (.ref C) (.type "ValueError") = some true := by
  unfold PySem.W.kitOne PySem.W.kitCls
  rw [if_neg (by simp)]
  show (if PySem.W.kitMeta "ValueError" = true then _ else _) = _
  rw [if_pos (by decide +kernel), h.sub]
  simp
theorem ErrAt.kitW (h : ErrAt K C W) (hW : ErrAt' K W) : PySem.W.kitOne K (.ref C) (.ref W) = some true := by
  unfold PySem.W.kitOne PySem.W.kitCls
  by_cases c : C = W
  · rw [if_pos (by rw [c]; exact beq_self_eq_true _)]
  · rw [if_neg (by intro z; exact c (Value.ref.inj (beq_iff_eq.mp z)))]
    show (if _ then _ else _) = _
    rw [if_pos hW.ok, h.sub]
    simp
theorem ErrAt.kitD (h : ErrAt K C W) (hD : ErrAt K D W) (ne : D ≠ W) : PySem.W.kitOne K (.ref C) (.ref D) = some (decide (D = C)) := by
  unfold PySem.W.kitOne PySem.W.kitCls
  by_cases c : C = D
  · rw [if_pos (by rw [c]; exact beq_self_eq_true _), decide_eq_true c.symm]
  · rw [if_neg (by intro z; exact c (Value.ref.inj (beq_iff_eq.mp z)))]
    show (if _ then _ else _) = _
    rw [if_pos hD.to.ok, h.sub, decide_eq_false (fun z => c z.symm)]
    have : (Value.ref C :: .ref W :: veT).contains (.ref D) = false := by
      rw [Bool.eq_false_iff]
      intro z
      rw [List.contains_iff_mem] at z
      rcases List.mem_cons.mp z with z | z
      · exact c (Value.ref.inj z).symm
      rcases List.mem_cons.mp z with z | z
      · exact ne (Value.ref.inj z)
      · simp at z
    rw [this]
theorem nod_ne {l : List Addr} {w : Addr} (h : (l ++ [w]).Nodup) {i j : Nat} (hi : i < l.length) (hj : j < l.length) : decide (l.getD j 0 = l.getD i 0) = decide (j = i) ∧ l.getD j 0 ≠ w := by
  have hl := (List.nodup_append.mp h).1
  have gi : l.getD i 0 = l[i] := by rw [List.getD_eq_getElem?_getD, List.getElem?_eq_getElem hi]; rfl
  have gj : l.getD j 0 = l[j] := by rw [List.getD_eq_getElem?_getD, List.getElem?_eq_getElem hj]; rfl
  constructor
  · by_cases c : j = i
    · subst c
      rw [decide_eq_true rfl, decide_eq_true rfl]
    · rw [decide_eq_false c, decide_eq_false]
      rw [gi, gj]
      intro z
      exact c ((List.getElem_inj hl).mp z)
  · rw [gj]
    intro z
    exact (List.nodup_append.mp h).2.2 _ (List.getElem_mem hj) _ (List.mem_singleton.mpr rfl) z
theorem ErrAt.kit {l : List Addr} {i j : Nat} (h : ErrAt K (l.getD i 0) W) (hD : ErrAt K (l.getD j 0) W) (hi : i < l.length) (hj : j < l.length) (nod : (l ++ [W]).Nodup) :
    PySem.W.kitOne K (.ref (l.getD i 0)) (.ref (l.getD j 0)) = some (decide (j = i)) := by
  obtain ⟨a, b⟩ := nod_ne nod hi hj
  rw [h.kitD hD b, a]
end
theorem ErrAt.exm {K : PySem.W.Frag} {C W : Addr} (h : ErrAt K C W) : PySem.W.exmOne K (.ref C) (.ref C) = some true := by
  have a : (PySem.W.subIn K (.ref C) (.type "BaseException") == some true) = true := by rw [h.sub]; simp
  unfold PySem.W.exmOne
  rw [if_pos a]
  unfold PySem.W.kitCls
  show (if _ then _ else _) = _
  rw [if_pos h.to.ok, h.sub]
  simp
theorem ErrAt.exmNo {K : PySem.W.Frag} {C D W : Addr} (h : ErrAt K C W) (hD : ErrAt K D W) (n1 : D ≠ C) (n2 : D ≠ W) : PySem.W.exmOne K (.ref C) (.ref D) = some false := by
  have a : (PySem.W.subIn K (.ref D) (.type "BaseException") == some true) = true := by rw [hD.sub]; simp
  unfold PySem.W.exmOne
  rw [if_pos a]
  unfold PySem.W.kitCls
  show (if _ then _ else _) = _
  rw [if_pos hD.to.ok, h.sub]
  simp [n1, n2]
theorem kitNo {K : PySem.W.Frag} {C : Addr} {t : Value} (h : ((PySem.W.clsIn K C).isSome && PySem.W.typeIn K (.ref C) == some (.type "type")) = true) (nf : PySem.W.notFirst K C t = true) (ne : (t == .ref C) = false) : PySem.W.kitOne K t (.ref C) = some false := by
  unfold PySem.W.notFirst at nf
  rw [ne, Bool.false_or] at nf
  unfold PySem.W.kitOne
  rw [if_neg (by rw [ne]; exact Bool.noConfusion)]
  unfold PySem.W.kitCls
  show (if _ then _ else _) = _
  rw [if_pos h]
  exact beq_iff_eq.mp nf
set_option maxHeartbeats 4000000 in
theorem all_mk {l : PySem.W.OpenLaw} {w : World} {K : PySem.W.Frag} {h : Heap} {mg : Str → Option Value} {fa C_Wire C_Part C_Word C_WireError C_NoSize C_NoRing C_NoPlace f_l_cell f_l_row f_l_drawn f_l_size f_l_rings f_moves_of T_moves_of f_rings_of f_rings_text f_Wire_init f_Wire_rings f_Wire_images f_Wire_getitem f_Wire_eq f_Wire_str f_NoSize_init f_NoRing_init f_NoPlace_init f_Part_init f_known_part f_one_form f_Word_init f_Word_known f_l_wire f_l_is_wire f_l_refused f_l_no_place f_l_told f_l_fault f_l_is_alone f_l_is_kept f_law : Addr} (X : K.In h) (G : h.Ns mainGlobals mg) (hfa : mg "law" = some (.ref fa))
    {nm_WireError qn_WireError : Str} {N_WireError : Addr} {bs_WireError : List Value} {sn_WireError : List Str} {sub_WireError : List Value} {ab_WireError : Bool} {col_WireError : Option Bool} {dd_WireError : Option Addr} {k0_WireError k1_WireError k2_WireError k3_WireError k5_WireError : Option Value}
    {nm_NoSize qn_NoSize : Str} {N_NoSize : Addr} {bs_NoSize : List Value} {sn_NoSize : List Str} {sub_NoSize : List Value} {ab_NoSize : Bool} {col_NoSize : Option Bool} {dd_NoSize : Option Addr} {k0_NoSize k1_NoSize k2_NoSize k3_NoSize k5_NoSize : Option Value}
    {nm_NoRing qn_NoRing : Str} {N_NoRing : Addr} {bs_NoRing : List Value} {sn_NoRing : List Str} {sub_NoRing : List Value} {ab_NoRing : Bool} {col_NoRing : Option Bool} {dd_NoRing : Option Addr} {k0_NoRing k1_NoRing k2_NoRing k3_NoRing k5_NoRing : Option Value}
    {nm_NoPlace qn_NoPlace : Str} {N_NoPlace : Addr} {bs_NoPlace : List Value} {sn_NoPlace : List Str} {sub_NoPlace : List Value} {ab_NoPlace : Bool} {col_NoPlace : Option Bool} {dd_NoPlace : Option Addr} {k0_NoPlace k1_NoPlace k2_NoPlace k3_NoPlace k5_NoPlace : Option Value}
    {cdW : ClassData}
    {od_l_cell an_l_cell : Option Addr} {sl_l_cell : Array (Option Value)} {oc_l_cell kV_l_cell dc_l_cell pm_l_cell cd_l_cell ct_l_cell : Value}
    {od_l_row an_l_row : Option Addr} {sl_l_row : Array (Option Value)} {oc_l_row kV_l_row dc_l_row pm_l_row cd_l_row ct_l_row : Value}
    {od_l_drawn an_l_drawn : Option Addr} {sl_l_drawn : Array (Option Value)} {oc_l_drawn kV_l_drawn dc_l_drawn pm_l_drawn cd_l_drawn ct_l_drawn : Value}
    {od_l_size an_l_size : Option Addr} {sl_l_size : Array (Option Value)} {oc_l_size kV_l_size dc_l_size pm_l_size cd_l_size ct_l_size : Value}
    {od_l_rings an_l_rings : Option Addr} {sl_l_rings : Array (Option Value)} {oc_l_rings kV_l_rings dc_l_rings pm_l_rings cd_l_rings ct_l_rings : Value}
    {od_moves_of an_moves_of : Option Addr} {sl_moves_of : Array (Option Value)} {oc_moves_of kV_moves_of dc_moves_of pm_moves_of cd_moves_of ct_moves_of : Value}
    {oT_moves_of : Value} {dT_moves_of : Option Addr} {nT_moves_of : Nat} {sT_moves_of : Array (Option Value)}
    {od_rings_of an_rings_of : Option Addr} {sl_rings_of : Array (Option Value)} {oc_rings_of kV_rings_of dc_rings_of pm_rings_of cd_rings_of ct_rings_of : Value}
    {od_rings_text an_rings_text : Option Addr} {sl_rings_text : Array (Option Value)} {oc_rings_text kV_rings_text dc_rings_text pm_rings_text cd_rings_text ct_rings_text : Value}
    {od_Wire_init an_Wire_init : Option Addr} {sl_Wire_init : Array (Option Value)} {oc_Wire_init kV_Wire_init dc_Wire_init pm_Wire_init cd_Wire_init ct_Wire_init : Value}
    {od_Wire_rings an_Wire_rings : Option Addr} {sl_Wire_rings : Array (Option Value)} {oc_Wire_rings kV_Wire_rings dc_Wire_rings pm_Wire_rings cd_Wire_rings ct_Wire_rings : Value}
    {od_Wire_images an_Wire_images : Option Addr} {sl_Wire_images : Array (Option Value)} {oc_Wire_images kV_Wire_images dc_Wire_images pm_Wire_images cd_Wire_images ct_Wire_images : Value}
    {od_Wire_getitem an_Wire_getitem : Option Addr} {sl_Wire_getitem : Array (Option Value)} {oc_Wire_getitem kV_Wire_getitem dc_Wire_getitem pm_Wire_getitem cd_Wire_getitem ct_Wire_getitem : Value}
    {od_Wire_eq an_Wire_eq : Option Addr} {sl_Wire_eq : Array (Option Value)} {oc_Wire_eq kV_Wire_eq dc_Wire_eq pm_Wire_eq cd_Wire_eq ct_Wire_eq : Value}
    {od_Wire_str an_Wire_str : Option Addr} {sl_Wire_str : Array (Option Value)} {oc_Wire_str kV_Wire_str dc_Wire_str pm_Wire_str cd_Wire_str ct_Wire_str : Value}
    {od_NoSize_init an_NoSize_init : Option Addr} {sl_NoSize_init : Array (Option Value)} {oc_NoSize_init kV_NoSize_init dc_NoSize_init pm_NoSize_init cd_NoSize_init ct_NoSize_init : Value}
    {od_NoRing_init an_NoRing_init : Option Addr} {sl_NoRing_init : Array (Option Value)} {oc_NoRing_init kV_NoRing_init dc_NoRing_init pm_NoRing_init cd_NoRing_init ct_NoRing_init : Value}
    {od_NoPlace_init an_NoPlace_init : Option Addr} {sl_NoPlace_init : Array (Option Value)} {oc_NoPlace_init kV_NoPlace_init dc_NoPlace_init pm_NoPlace_init cd_NoPlace_init ct_NoPlace_init : Value}
    {od_Part_init an_Part_init : Option Addr} {sl_Part_init : Array (Option Value)} {oc_Part_init kV_Part_init dc_Part_init pm_Part_init cd_Part_init ct_Part_init : Value}
    {od_known_part an_known_part : Option Addr} {sl_known_part : Array (Option Value)} {oc_known_part kV_known_part dc_known_part pm_known_part cd_known_part ct_known_part : Value}
    {od_one_form an_one_form : Option Addr} {sl_one_form : Array (Option Value)} {oc_one_form kV_one_form dc_one_form pm_one_form cd_one_form ct_one_form : Value}
    {od_Word_init an_Word_init : Option Addr} {sl_Word_init : Array (Option Value)} {oc_Word_init kV_Word_init dc_Word_init pm_Word_init cd_Word_init ct_Word_init : Value}
    {od_Word_known an_Word_known : Option Addr} {sl_Word_known : Array (Option Value)} {oc_Word_known kV_Word_known dc_Word_known pm_Word_known cd_Word_known ct_Word_known : Value}
    {mc_Word_known : Value} {sp_Word_known : Addr} {sr_Word_known : List Value}
    {od_l_wire an_l_wire : Option Addr} {sl_l_wire : Array (Option Value)} {oc_l_wire kV_l_wire dc_l_wire pm_l_wire cd_l_wire ct_l_wire : Value}
    {od_l_is_wire an_l_is_wire : Option Addr} {sl_l_is_wire : Array (Option Value)} {oc_l_is_wire kV_l_is_wire dc_l_is_wire pm_l_is_wire cd_l_is_wire ct_l_is_wire : Value}
    {od_l_refused an_l_refused : Option Addr} {sl_l_refused : Array (Option Value)} {oc_l_refused kV_l_refused dc_l_refused pm_l_refused cd_l_refused ct_l_refused : Value}
    {od_l_no_place an_l_no_place : Option Addr} {sl_l_no_place : Array (Option Value)} {oc_l_no_place kV_l_no_place dc_l_no_place pm_l_no_place cd_l_no_place ct_l_no_place : Value}
    {od_l_told an_l_told : Option Addr} {sl_l_told : Array (Option Value)} {oc_l_told kV_l_told dc_l_told pm_l_told cd_l_told ct_l_told : Value}
    {od_l_fault an_l_fault : Option Addr} {sl_l_fault : Array (Option Value)} {oc_l_fault kV_l_fault dc_l_fault pm_l_fault cd_l_fault ct_l_fault : Value}
    {od_l_is_alone an_l_is_alone : Option Addr} {sl_l_is_alone : Array (Option Value)} {oc_l_is_alone kV_l_is_alone dc_l_is_alone pm_l_is_alone cd_l_is_alone ct_l_is_alone : Value}
    {od_l_is_kept an_l_is_kept : Option Addr} {sl_l_is_kept : Array (Option Value)} {oc_l_is_kept kV_l_is_kept dc_l_is_kept pm_l_is_kept cd_l_is_kept ct_l_is_kept : Value}
    {od_law an_law : Option Addr} {sl_law : Array (Option Value)} {oc_law kV_law dc_law pm_law cd_law ct_law : Value}
    (g_Wire : PySem.W.nsIn K mainGlobals "Wire" = some (some (.ref C_Wire)))
    (pg_Wire : PySem.W.plainGet K C_Wire Str.empty = true)
    (hd_Wire : PySem.W.hasDictIn K C_Wire = true)
    (po_Wire : PySem.W.plainOver K C_Wire = true)
    (sa_Wire : PySem.W.findIn K (.ref C_Wire) "__setattr__" = some (some (.builtin "object.__setattr__")))
    (mk_Wire : PySem.W.makesIn K C_Wire = true)
    (kc_Wire : PySem.W.keepIn K (.ref C_Wire) = true)
    (n_Wire_size : PySem.W.findIn K (.ref C_Wire) "size" = some none)
    (n_Wire__images : PySem.W.findIn K (.ref C_Wire) "_images" = some none)
    (g_Part : PySem.W.nsIn K mainGlobals "Part" = some (some (.ref C_Part)))
    (pg_Part : PySem.W.plainGet K C_Part Str.empty = true)
    (hd_Part : PySem.W.hasDictIn K C_Part = true)
    (po_Part : PySem.W.plainOver K C_Part = true)
    (sa_Part : PySem.W.findIn K (.ref C_Part) "__setattr__" = some (some (.builtin "object.__setattr__")))
    (mk_Part : PySem.W.makesIn K C_Part = true)
    (kc_Part : PySem.W.keepIn K (.ref C_Part) = true)
    (n_Part_name : PySem.W.findIn K (.ref C_Part) "name" = some none)
    (n_Part_back : PySem.W.findIn K (.ref C_Part) "back" = some none)
    (n_Part_moves : PySem.W.findIn K (.ref C_Part) "moves" = some none)
    (g_Word : PySem.W.nsIn K mainGlobals "Word" = some (some (.ref C_Word)))
    (pg_Word : PySem.W.plainGet K C_Word Str.empty = true)
    (hd_Word : PySem.W.hasDictIn K C_Word = true)
    (po_Word : PySem.W.plainOver K C_Word = true)
    (sa_Word : PySem.W.findIn K (.ref C_Word) "__setattr__" = some (some (.builtin "object.__setattr__")))
    (mk_Word : PySem.W.makesIn K C_Word = true)
    (kc_Word : PySem.W.keepIn K (.ref C_Word) = true)
    (n_Word_parts : PySem.W.findIn K (.ref C_Word) "parts" = some none)
    (n_Word__kinds : PySem.W.findIn K (.ref C_Word) "_kinds" = some none)
    (g_WireError : PySem.W.nsIn K mainGlobals "WireError" = some (some (.ref C_WireError)))
    (g_NoSize : PySem.W.nsIn K mainGlobals "NoSize" = some (some (.ref C_NoSize)))
    (g_NoRing : PySem.W.nsIn K mainGlobals "NoRing" = some (some (.ref C_NoRing)))
    (g_NoPlace : PySem.W.nsIn K mainGlobals "NoPlace" = some (some (.ref C_NoPlace)))
    (x_WireError : K.lookup C_WireError = some (excClassObj nm_WireError qn_WireError C_WireError N_WireError bs_WireError [.type "ValueError", .type "Exception", .type "BaseException", .type "object"] true sn_WireError sub_WireError ab_WireError col_WireError dd_WireError k0_WireError k1_WireError k2_WireError k3_WireError k5_WireError "ValueError.__new__"))
    (x_NoSize : K.lookup C_NoSize = some (excClassObj nm_NoSize qn_NoSize C_NoSize N_NoSize bs_NoSize [.ref C_WireError, .type "ValueError", .type "Exception", .type "BaseException", .type "object"] true sn_NoSize sub_NoSize ab_NoSize col_NoSize dd_NoSize k0_NoSize k1_NoSize k2_NoSize k3_NoSize k5_NoSize "ValueError.__new__"))
    (kc_NoSize : PySem.W.keepIn K (.ref C_NoSize) = true)
    (sa_NoSize : PySem.W.findIn K (.ref C_NoSize) "__setattr__" = some (some (.builtin "object.__setattr__")))
    (ga_NoSize : PySem.W.findIn K (.ref C_NoSize) "__getattribute__" = some (some (.builtin "BaseException.__getattribute__")))
    (gg_NoSize : PySem.W.findIn K (.ref C_NoSize) "__getattr__" = some none)
    (cl_NoSize : PySem.W.findIn K (.ref C_NoSize) "__class__" = some (some (.builtin "object.__class__")))
    (no_NoSize : PySem.W.findIn K (.ref C_NoSize) "size" = some none)
    (x_NoRing : K.lookup C_NoRing = some (excClassObj nm_NoRing qn_NoRing C_NoRing N_NoRing bs_NoRing [.ref C_WireError, .type "ValueError", .type "Exception", .type "BaseException", .type "object"] true sn_NoRing sub_NoRing ab_NoRing col_NoRing dd_NoRing k0_NoRing k1_NoRing k2_NoRing k3_NoRing k5_NoRing "ValueError.__new__"))
    (kc_NoRing : PySem.W.keepIn K (.ref C_NoRing) = true)
    (sa_NoRing : PySem.W.findIn K (.ref C_NoRing) "__setattr__" = some (some (.builtin "object.__setattr__")))
    (ga_NoRing : PySem.W.findIn K (.ref C_NoRing) "__getattribute__" = some (some (.builtin "BaseException.__getattribute__")))
    (gg_NoRing : PySem.W.findIn K (.ref C_NoRing) "__getattr__" = some none)
    (cl_NoRing : PySem.W.findIn K (.ref C_NoRing) "__class__" = some (some (.builtin "object.__class__")))
    (no_NoRing : PySem.W.findIn K (.ref C_NoRing) "index" = some none)
    (x_NoPlace : K.lookup C_NoPlace = some (excClassObj nm_NoPlace qn_NoPlace C_NoPlace N_NoPlace bs_NoPlace [.ref C_WireError, .type "ValueError", .type "Exception", .type "BaseException", .type "object"] true sn_NoPlace sub_NoPlace ab_NoPlace col_NoPlace dd_NoPlace k0_NoPlace k1_NoPlace k2_NoPlace k3_NoPlace k5_NoPlace "ValueError.__new__"))
    (kc_NoPlace : PySem.W.keepIn K (.ref C_NoPlace) = true)
    (sa_NoPlace : PySem.W.findIn K (.ref C_NoPlace) "__setattr__" = some (some (.builtin "object.__setattr__")))
    (ga_NoPlace : PySem.W.findIn K (.ref C_NoPlace) "__getattribute__" = some (some (.builtin "BaseException.__getattribute__")))
    (gg_NoPlace : PySem.W.findIn K (.ref C_NoPlace) "__getattr__" = some none)
    (cl_NoPlace : PySem.W.findIn K (.ref C_NoPlace) "__class__" = some (some (.builtin "object.__class__")))
    (no_NoPlace : PySem.W.findIn K (.ref C_NoPlace) "place" = some none)
    (clw : PySem.W.findIn K (.ref C_Wire) "__class__" = some (some (.builtin "object.__class__")))
    (clWd : PySem.W.findIn K (.ref C_Word) "__class__" = some (some (.builtin "object.__class__")))
    (hget : PySem.W.specialIn K (.builtin "object.__class__") "__get__" = some (some (.builtin "getset_descriptor.__get__")))
    (htk : PySem.W.takesIn K (.builtin "object.__class__") = some true)
    (hmw : PySem.W.mroIn K C_Wire (.type "object") = some true)
    (hmwd : PySem.W.mroIn K C_Word (.type "object") = some true)
    (hne : PySem.W.findIn K (.ref C_Wire) "__ne__" = some (some (.builtin "object.__ne__")))
    (hcd : PySem.W.clsIn K C_Wire = some cdW)
    (hty : PySem.W.typeIn K (.ref C_Wire) = some (.type "type"))
    (ne1 : C_NoSize ≠ C_NoRing)
    (ne2 : C_NoSize ≠ C_WireError)
    (ne3 : C_Word ≠ C_Wire)
    (nf_no : PySem.W.notFirst K C_Wire (.type "NoneType") = true)
    (nf_in : PySem.W.notFirst K C_Wire (.type "int") = true)
    (nf_bl : PySem.W.notFirst K C_Wire (.type "bool") = true)
    (nf_ls : PySem.W.notFirst K C_Wire (.type "list") = true)
    (nf_st : PySem.W.notFirst K C_Wire (.type "str") = true)
    (nf_wd : PySem.W.notFirst K C_Wire (.ref C_Word) = true)
    (z_len : PySem.W.nsIn K mainGlobals "len" = some none)
    (z_range : PySem.W.nsIn K mainGlobals "range" = some none)
    (z_int : PySem.W.nsIn K mainGlobals "int" = some none)
    (z_list : PySem.W.nsIn K mainGlobals "list" = some none)
    (z_enumerate : PySem.W.nsIn K mainGlobals "enumerate" = some none)
    (z_dict : PySem.W.nsIn K mainGlobals "dict" = some none)
    (z_zip : PySem.W.nsIn K mainGlobals "zip" = some none)
    (z_set : PySem.W.nsIn K mainGlobals "set" = some none)
    (z_sorted : PySem.W.nsIn K mainGlobals "sorted" = some none)
    (z_all : PySem.W.nsIn K mainGlobals "all" = some none)
    (z_abs : PySem.W.nsIn K mainGlobals "abs" = some none)
    (z_isinstance : PySem.W.nsIn K mainGlobals "isinstance" = some none)
    (z_bool : PySem.W.nsIn K mainGlobals "bool" = some none)
    (z_str : PySem.W.nsIn K mainGlobals "str" = some none)
    (a_l_cell : PySem.W.nsIn K mainGlobals "_law_cell" = some (some (.ref f_l_cell)))
    (l_l_cell : K.lookup f_l_cell = some ⟨oc_l_cell, od_l_cell, .func (PySem.W.fnOf "_law_cell" "_law_cell" (defArgs s_l_cell) (defBody s_l_cell) (defScope s_l_cell) .none kV_l_cell dc_l_cell pm_l_cell an_l_cell cd_l_cell ct_l_cell), sl_l_cell⟩)
    (c_l_cell : PySem.W.codeIn K cd_l_cell "_law_cell" = true)
    (k_l_cell : PySem.W.keepIn K (.ref f_l_cell) = true)
    (a_l_row : PySem.W.nsIn K mainGlobals "_law_row" = some (some (.ref f_l_row)))
    (l_l_row : K.lookup f_l_row = some ⟨oc_l_row, od_l_row, .func (PySem.W.fnOf "_law_row" "_law_row" (defArgs s_l_row) (defBody s_l_row) (defScope s_l_row) .none kV_l_row dc_l_row pm_l_row an_l_row cd_l_row ct_l_row), sl_l_row⟩)
    (c_l_row : PySem.W.codeIn K cd_l_row "_law_row" = true)
    (k_l_row : PySem.W.keepIn K (.ref f_l_row) = true)
    (a_l_drawn : PySem.W.nsIn K mainGlobals "_law_drawn" = some (some (.ref f_l_drawn)))
    (l_l_drawn : K.lookup f_l_drawn = some ⟨oc_l_drawn, od_l_drawn, .func (PySem.W.fnOf "_law_drawn" "_law_drawn" (defArgs s_l_drawn) (defBody s_l_drawn) (defScope s_l_drawn) .none kV_l_drawn dc_l_drawn pm_l_drawn an_l_drawn cd_l_drawn ct_l_drawn), sl_l_drawn⟩)
    (c_l_drawn : PySem.W.codeIn K cd_l_drawn "_law_drawn" = true)
    (k_l_drawn : PySem.W.keepIn K (.ref f_l_drawn) = true)
    (a_l_size : PySem.W.nsIn K mainGlobals "_law_size" = some (some (.ref f_l_size)))
    (l_l_size : K.lookup f_l_size = some ⟨oc_l_size, od_l_size, .func (PySem.W.fnOf "_law_size" "_law_size" (defArgs s_l_size) (defBody s_l_size) (defScope s_l_size) .none kV_l_size dc_l_size pm_l_size an_l_size cd_l_size ct_l_size), sl_l_size⟩)
    (c_l_size : PySem.W.codeIn K cd_l_size "_law_size" = true)
    (k_l_size : PySem.W.keepIn K (.ref f_l_size) = true)
    (a_l_rings : PySem.W.nsIn K mainGlobals "_law_rings" = some (some (.ref f_l_rings)))
    (l_l_rings : K.lookup f_l_rings = some ⟨oc_l_rings, od_l_rings, .func (PySem.W.fnOf "_law_rings" "_law_rings" (defArgs s_l_rings) (defBody s_l_rings) (defScope s_l_rings) .none kV_l_rings dc_l_rings pm_l_rings an_l_rings cd_l_rings ct_l_rings), sl_l_rings⟩)
    (c_l_rings : PySem.W.codeIn K cd_l_rings "_law_rings" = true)
    (k_l_rings : PySem.W.keepIn K (.ref f_l_rings) = true)
    (a_moves_of : PySem.W.nsIn K mainGlobals "moves_of" = some (some (.ref f_moves_of)))
    (l_moves_of : K.lookup f_moves_of = some ⟨oc_moves_of, od_moves_of, .func (PySem.W.fnOf "moves_of" "moves_of" (defArgs s_moves_of) (defBody s_moves_of) (defScope s_moves_of) (.ref T_moves_of) kV_moves_of dc_moves_of pm_moves_of an_moves_of cd_moves_of ct_moves_of), sl_moves_of⟩)
    (lT_moves_of : K.lookup T_moves_of = some ⟨oT_moves_of, dT_moves_of, .seq #[.none] nT_moves_of, sT_moves_of⟩)
    (c_moves_of : PySem.W.codeIn K cd_moves_of "moves_of" = true)
    (k_moves_of : PySem.W.keepIn K (.ref f_moves_of) = true)
    (a_rings_of : PySem.W.nsIn K mainGlobals "rings_of" = some (some (.ref f_rings_of)))
    (l_rings_of : K.lookup f_rings_of = some ⟨oc_rings_of, od_rings_of, .func (PySem.W.fnOf "rings_of" "rings_of" (defArgs s_rings_of) (defBody s_rings_of) (defScope s_rings_of) .none kV_rings_of dc_rings_of pm_rings_of an_rings_of cd_rings_of ct_rings_of), sl_rings_of⟩)
    (c_rings_of : PySem.W.codeIn K cd_rings_of "rings_of" = true)
    (k_rings_of : PySem.W.keepIn K (.ref f_rings_of) = true)
    (a_rings_text : PySem.W.nsIn K mainGlobals "rings_text" = some (some (.ref f_rings_text)))
    (l_rings_text : K.lookup f_rings_text = some ⟨oc_rings_text, od_rings_text, .func (PySem.W.fnOf "rings_text" "rings_text" (defArgs s_rings_text) (defBody s_rings_text) (defScope s_rings_text) .none kV_rings_text dc_rings_text pm_rings_text an_rings_text cd_rings_text ct_rings_text), sl_rings_text⟩)
    (c_rings_text : PySem.W.codeIn K cd_rings_text "rings_text" = true)
    (k_rings_text : PySem.W.keepIn K (.ref f_rings_text) = true)
    (a_Wire_init : PySem.W.findIn K (.ref C_Wire) "__init__" = some (some (.ref f_Wire_init)))
    (i_Wire_init : PySem.W.isFn K (.ref f_Wire_init) = true)
    (l_Wire_init : K.lookup f_Wire_init = some ⟨oc_Wire_init, od_Wire_init, .func (PySem.W.fnOf "__init__" "Wire.__init__" (defArgs s_Wire_init) (defBody s_Wire_init) (defScope s_Wire_init) .none kV_Wire_init dc_Wire_init pm_Wire_init an_Wire_init cd_Wire_init ct_Wire_init), sl_Wire_init⟩)
    (c_Wire_init : PySem.W.codeIn K cd_Wire_init "Wire.__init__" = true)
    (k_Wire_init : PySem.W.keepIn K (.ref f_Wire_init) = true)
    (a_Wire_rings : PySem.W.findIn K (.ref C_Wire) "rings" = some (some (.ref f_Wire_rings)))
    (i_Wire_rings : PySem.W.isFn K (.ref f_Wire_rings) = true)
    (l_Wire_rings : K.lookup f_Wire_rings = some ⟨oc_Wire_rings, od_Wire_rings, .func (PySem.W.fnOf "rings" "Wire.rings" (defArgs s_Wire_rings) (defBody s_Wire_rings) (defScope s_Wire_rings) .none kV_Wire_rings dc_Wire_rings pm_Wire_rings an_Wire_rings cd_Wire_rings ct_Wire_rings), sl_Wire_rings⟩)
    (c_Wire_rings : PySem.W.codeIn K cd_Wire_rings "Wire.rings" = true)
    (k_Wire_rings : PySem.W.keepIn K (.ref f_Wire_rings) = true)
    (a_Wire_images : PySem.W.findIn K (.ref C_Wire) "images" = some (some (.ref f_Wire_images)))
    (i_Wire_images : PySem.W.isFn K (.ref f_Wire_images) = true)
    (l_Wire_images : K.lookup f_Wire_images = some ⟨oc_Wire_images, od_Wire_images, .func (PySem.W.fnOf "images" "Wire.images" (defArgs s_Wire_images) (defBody s_Wire_images) (defScope s_Wire_images) .none kV_Wire_images dc_Wire_images pm_Wire_images an_Wire_images cd_Wire_images ct_Wire_images), sl_Wire_images⟩)
    (c_Wire_images : PySem.W.codeIn K cd_Wire_images "Wire.images" = true)
    (k_Wire_images : PySem.W.keepIn K (.ref f_Wire_images) = true)
    (a_Wire_getitem : PySem.W.findIn K (.ref C_Wire) "__getitem__" = some (some (.ref f_Wire_getitem)))
    (i_Wire_getitem : PySem.W.isFn K (.ref f_Wire_getitem) = true)
    (l_Wire_getitem : K.lookup f_Wire_getitem = some ⟨oc_Wire_getitem, od_Wire_getitem, .func (PySem.W.fnOf "__getitem__" "Wire.__getitem__" (defArgs s_Wire_getitem) (defBody s_Wire_getitem) (defScope s_Wire_getitem) .none kV_Wire_getitem dc_Wire_getitem pm_Wire_getitem an_Wire_getitem cd_Wire_getitem ct_Wire_getitem), sl_Wire_getitem⟩)
    (c_Wire_getitem : PySem.W.codeIn K cd_Wire_getitem "Wire.__getitem__" = true)
    (k_Wire_getitem : PySem.W.keepIn K (.ref f_Wire_getitem) = true)
    (a_Wire_eq : PySem.W.findIn K (.ref C_Wire) "__eq__" = some (some (.ref f_Wire_eq)))
    (i_Wire_eq : PySem.W.isFn K (.ref f_Wire_eq) = true)
    (l_Wire_eq : K.lookup f_Wire_eq = some ⟨oc_Wire_eq, od_Wire_eq, .func (PySem.W.fnOf "__eq__" "Wire.__eq__" (defArgs s_Wire_eq) (defBody s_Wire_eq) (defScope s_Wire_eq) .none kV_Wire_eq dc_Wire_eq pm_Wire_eq an_Wire_eq cd_Wire_eq ct_Wire_eq), sl_Wire_eq⟩)
    (c_Wire_eq : PySem.W.codeIn K cd_Wire_eq "Wire.__eq__" = true)
    (k_Wire_eq : PySem.W.keepIn K (.ref f_Wire_eq) = true)
    (a_Wire_str : PySem.W.findIn K (.ref C_Wire) "__str__" = some (some (.ref f_Wire_str)))
    (i_Wire_str : PySem.W.isFn K (.ref f_Wire_str) = true)
    (l_Wire_str : K.lookup f_Wire_str = some ⟨oc_Wire_str, od_Wire_str, .func (PySem.W.fnOf "__str__" "Wire.__str__" (defArgs s_Wire_str) (defBody s_Wire_str) (defScope s_Wire_str) .none kV_Wire_str dc_Wire_str pm_Wire_str an_Wire_str cd_Wire_str ct_Wire_str), sl_Wire_str⟩)
    (c_Wire_str : PySem.W.codeIn K cd_Wire_str "Wire.__str__" = true)
    (k_Wire_str : PySem.W.keepIn K (.ref f_Wire_str) = true)
    (a_NoSize_init : PySem.W.findIn K (.ref C_NoSize) "__init__" = some (some (.ref f_NoSize_init)))
    (i_NoSize_init : PySem.W.typeIn K (.ref f_NoSize_init) = some (.type "function"))
    (l_NoSize_init : K.lookup f_NoSize_init = some ⟨oc_NoSize_init, od_NoSize_init, .func (PySem.W.fnOf "__init__" "NoSize.__init__" (defArgs s_NoSize_init) (defBody s_NoSize_init) (defScope s_NoSize_init) .none kV_NoSize_init dc_NoSize_init pm_NoSize_init an_NoSize_init cd_NoSize_init ct_NoSize_init), sl_NoSize_init⟩)
    (c_NoSize_init : PySem.W.codeIn K cd_NoSize_init "NoSize.__init__" = true)
    (k_NoSize_init : PySem.W.keepIn K (.ref f_NoSize_init) = true)
    (a_NoRing_init : PySem.W.findIn K (.ref C_NoRing) "__init__" = some (some (.ref f_NoRing_init)))
    (i_NoRing_init : PySem.W.typeIn K (.ref f_NoRing_init) = some (.type "function"))
    (l_NoRing_init : K.lookup f_NoRing_init = some ⟨oc_NoRing_init, od_NoRing_init, .func (PySem.W.fnOf "__init__" "NoRing.__init__" (defArgs s_NoRing_init) (defBody s_NoRing_init) (defScope s_NoRing_init) .none kV_NoRing_init dc_NoRing_init pm_NoRing_init an_NoRing_init cd_NoRing_init ct_NoRing_init), sl_NoRing_init⟩)
    (c_NoRing_init : PySem.W.codeIn K cd_NoRing_init "NoRing.__init__" = true)
    (k_NoRing_init : PySem.W.keepIn K (.ref f_NoRing_init) = true)
    (a_NoPlace_init : PySem.W.findIn K (.ref C_NoPlace) "__init__" = some (some (.ref f_NoPlace_init)))
    (i_NoPlace_init : PySem.W.typeIn K (.ref f_NoPlace_init) = some (.type "function"))
    (l_NoPlace_init : K.lookup f_NoPlace_init = some ⟨oc_NoPlace_init, od_NoPlace_init, .func (PySem.W.fnOf "__init__" "NoPlace.__init__" (defArgs s_NoPlace_init) (defBody s_NoPlace_init) (defScope s_NoPlace_init) .none kV_NoPlace_init dc_NoPlace_init pm_NoPlace_init an_NoPlace_init cd_NoPlace_init ct_NoPlace_init), sl_NoPlace_init⟩)
    (c_NoPlace_init : PySem.W.codeIn K cd_NoPlace_init "NoPlace.__init__" = true)
    (k_NoPlace_init : PySem.W.keepIn K (.ref f_NoPlace_init) = true)
    (a_Part_init : PySem.W.findIn K (.ref C_Part) "__init__" = some (some (.ref f_Part_init)))
    (i_Part_init : PySem.W.isFn K (.ref f_Part_init) = true)
    (l_Part_init : K.lookup f_Part_init = some ⟨oc_Part_init, od_Part_init, .func (PySem.W.fnOf "__init__" "Part.__init__" (defArgs s_Part_init) (defBody s_Part_init) (defScope s_Part_init) .none kV_Part_init dc_Part_init pm_Part_init an_Part_init cd_Part_init ct_Part_init), sl_Part_init⟩)
    (c_Part_init : PySem.W.codeIn K cd_Part_init "Part.__init__" = true)
    (k_Part_init : PySem.W.keepIn K (.ref f_Part_init) = true)
    (a_known_part : PySem.W.nsIn K mainGlobals "known_part" = some (some (.ref f_known_part)))
    (l_known_part : K.lookup f_known_part = some ⟨oc_known_part, od_known_part, .func (PySem.W.fnOf "known_part" "known_part" (defArgs s_known_part) (defBody s_known_part) (defScope s_known_part) .none kV_known_part dc_known_part pm_known_part an_known_part cd_known_part ct_known_part), sl_known_part⟩)
    (c_known_part : PySem.W.codeIn K cd_known_part "known_part" = true)
    (k_known_part : PySem.W.keepIn K (.ref f_known_part) = true)
    (a_one_form : PySem.W.nsIn K mainGlobals "one_form" = some (some (.ref f_one_form)))
    (l_one_form : K.lookup f_one_form = some ⟨oc_one_form, od_one_form, .func (PySem.W.fnOf "one_form" "one_form" (defArgs s_one_form) (defBody s_one_form) (defScope s_one_form) .none kV_one_form dc_one_form pm_one_form an_one_form cd_one_form ct_one_form), sl_one_form⟩)
    (c_one_form : PySem.W.codeIn K cd_one_form "one_form" = true)
    (k_one_form : PySem.W.keepIn K (.ref f_one_form) = true)
    (a_Word_init : PySem.W.findIn K (.ref C_Word) "__init__" = some (some (.ref f_Word_init)))
    (i_Word_init : PySem.W.isFn K (.ref f_Word_init) = true)
    (l_Word_init : K.lookup f_Word_init = some ⟨oc_Word_init, od_Word_init, .func (PySem.W.fnOf "__init__" "Word.__init__" (defArgs s_Word_init) (defBody s_Word_init) (defScope s_Word_init) .none kV_Word_init dc_Word_init pm_Word_init an_Word_init cd_Word_init ct_Word_init), sl_Word_init⟩)
    (c_Word_init : PySem.W.codeIn K cd_Word_init "Word.__init__" = true)
    (k_Word_init : PySem.W.keepIn K (.ref f_Word_init) = true)
    (st_Word_known : PySem.W.typeIn K (.ref C_Word) = some mc_Word_known)
    (sd_Word_known : PySem.W.readsIn K C_Word mc_Word_known = true)
    (sg_Word_known : PySem.W.specialIn K (.ref C_Word) "__getattribute__" = some (some (.builtin "type.__getattribute__")))
    (sf_Word_known : PySem.W.findCls K (.ref C_Word) mc_Word_known "known" = some (.get (.builtin "staticmethod.__get__") (.ref sp_Word_known) .none (.ref C_Word)))
    (sc_Word_known : PySem.W.recIn K sp_Word_known "staticmethod" = some (.ref f_Word_known :: sr_Word_known))
    (l_Word_known : K.lookup f_Word_known = some ⟨oc_Word_known, od_Word_known, .func (PySem.W.fnOf "known" "Word.known" (defArgs s_Word_known) (defBody s_Word_known) (defScope s_Word_known) .none kV_Word_known dc_Word_known pm_Word_known an_Word_known cd_Word_known ct_Word_known), sl_Word_known⟩)
    (c_Word_known : PySem.W.codeIn K cd_Word_known "Word.known" = true)
    (k_Word_known : PySem.W.keepIn K (.ref f_Word_known) = true)
    (a_l_wire : PySem.W.nsIn K mainGlobals "_law_wire" = some (some (.ref f_l_wire)))
    (l_l_wire : K.lookup f_l_wire = some ⟨oc_l_wire, od_l_wire, .func (PySem.W.fnOf "_law_wire" "_law_wire" (defArgs s_l_wire) (defBody s_l_wire) (defScope s_l_wire) .none kV_l_wire dc_l_wire pm_l_wire an_l_wire cd_l_wire ct_l_wire), sl_l_wire⟩)
    (c_l_wire : PySem.W.codeIn K cd_l_wire "_law_wire" = true)
    (k_l_wire : PySem.W.keepIn K (.ref f_l_wire) = true)
    (a_l_is_wire : PySem.W.nsIn K mainGlobals "_law_is_wire" = some (some (.ref f_l_is_wire)))
    (l_l_is_wire : K.lookup f_l_is_wire = some ⟨oc_l_is_wire, od_l_is_wire, .func (PySem.W.fnOf "_law_is_wire" "_law_is_wire" (defArgs s_l_is_wire) (defBody s_l_is_wire) (defScope s_l_is_wire) .none kV_l_is_wire dc_l_is_wire pm_l_is_wire an_l_is_wire cd_l_is_wire ct_l_is_wire), sl_l_is_wire⟩)
    (c_l_is_wire : PySem.W.codeIn K cd_l_is_wire "_law_is_wire" = true)
    (k_l_is_wire : PySem.W.keepIn K (.ref f_l_is_wire) = true)
    (a_l_refused : PySem.W.nsIn K mainGlobals "_law_refused" = some (some (.ref f_l_refused)))
    (l_l_refused : K.lookup f_l_refused = some ⟨oc_l_refused, od_l_refused, .func (PySem.W.fnOf "_law_refused" "_law_refused" (defArgs s_l_refused) (defBody s_l_refused) (defScope s_l_refused) .none kV_l_refused dc_l_refused pm_l_refused an_l_refused cd_l_refused ct_l_refused), sl_l_refused⟩)
    (c_l_refused : PySem.W.codeIn K cd_l_refused "_law_refused" = true)
    (k_l_refused : PySem.W.keepIn K (.ref f_l_refused) = true)
    (a_l_no_place : PySem.W.nsIn K mainGlobals "_law_no_place" = some (some (.ref f_l_no_place)))
    (l_l_no_place : K.lookup f_l_no_place = some ⟨oc_l_no_place, od_l_no_place, .func (PySem.W.fnOf "_law_no_place" "_law_no_place" (defArgs s_l_no_place) (defBody s_l_no_place) (defScope s_l_no_place) .none kV_l_no_place dc_l_no_place pm_l_no_place an_l_no_place cd_l_no_place ct_l_no_place), sl_l_no_place⟩)
    (c_l_no_place : PySem.W.codeIn K cd_l_no_place "_law_no_place" = true)
    (k_l_no_place : PySem.W.keepIn K (.ref f_l_no_place) = true)
    (a_l_told : PySem.W.nsIn K mainGlobals "_law_told" = some (some (.ref f_l_told)))
    (l_l_told : K.lookup f_l_told = some ⟨oc_l_told, od_l_told, .func (PySem.W.fnOf "_law_told" "_law_told" (defArgs s_l_told) (defBody s_l_told) (defScope s_l_told) .none kV_l_told dc_l_told pm_l_told an_l_told cd_l_told ct_l_told), sl_l_told⟩)
    (c_l_told : PySem.W.codeIn K cd_l_told "_law_told" = true)
    (k_l_told : PySem.W.keepIn K (.ref f_l_told) = true)
    (a_l_fault : PySem.W.nsIn K mainGlobals "_law_fault" = some (some (.ref f_l_fault)))
    (l_l_fault : K.lookup f_l_fault = some ⟨oc_l_fault, od_l_fault, .func (PySem.W.fnOf "_law_fault" "_law_fault" (defArgs s_l_fault) (defBody s_l_fault) (defScope s_l_fault) .none kV_l_fault dc_l_fault pm_l_fault an_l_fault cd_l_fault ct_l_fault), sl_l_fault⟩)
    (c_l_fault : PySem.W.codeIn K cd_l_fault "_law_fault" = true)
    (k_l_fault : PySem.W.keepIn K (.ref f_l_fault) = true)
    (a_l_is_alone : PySem.W.nsIn K mainGlobals "_law_is_alone" = some (some (.ref f_l_is_alone)))
    (l_l_is_alone : K.lookup f_l_is_alone = some ⟨oc_l_is_alone, od_l_is_alone, .func (PySem.W.fnOf "_law_is_alone" "_law_is_alone" (defArgs s_l_is_alone) (defBody s_l_is_alone) (defScope s_l_is_alone) .none kV_l_is_alone dc_l_is_alone pm_l_is_alone an_l_is_alone cd_l_is_alone ct_l_is_alone), sl_l_is_alone⟩)
    (c_l_is_alone : PySem.W.codeIn K cd_l_is_alone "_law_is_alone" = true)
    (k_l_is_alone : PySem.W.keepIn K (.ref f_l_is_alone) = true)
    (a_l_is_kept : PySem.W.nsIn K mainGlobals "_law_is_kept" = some (some (.ref f_l_is_kept)))
    (l_l_is_kept : K.lookup f_l_is_kept = some ⟨oc_l_is_kept, od_l_is_kept, .func (PySem.W.fnOf "_law_is_kept" "_law_is_kept" (defArgs s_l_is_kept) (defBody s_l_is_kept) (defScope s_l_is_kept) .none kV_l_is_kept dc_l_is_kept pm_l_is_kept an_l_is_kept cd_l_is_kept ct_l_is_kept), sl_l_is_kept⟩)
    (c_l_is_kept : PySem.W.codeIn K cd_l_is_kept "_law_is_kept" = true)
    (k_l_is_kept : PySem.W.keepIn K (.ref f_l_is_kept) = true)
    (a_law : PySem.W.nsIn K mainGlobals "law" = some (some (.ref f_law)))
    (l_law : K.lookup f_law = some ⟨oc_law, od_law, .func (PySem.W.fnOf "law" "law" (defArgs s_law) (defBody s_law) (defScope s_law) .none kV_law dc_law pm_law an_law cd_law ct_law), sl_law⟩)
    (c_law : PySem.W.codeIn K cd_law "law" = true)
    (k_law : PySem.W.keepIn K (.ref f_law) = true)
    (fnget : PySem.W.fnIn K f_Wire_getitem = true)
    : ∃ fd : FuncData, (∀ (s : Shared) (v : Value), BindsTo s fd ⟨[v], []⟩ [("_law_script", v)]) ∧ ∀ base : Heap, K.In base → base.Ns mainGlobals mg → FnOk l.prog w K mg base CX0 8 fa fd ["_law_script"] (spLaw K) := by
  have e := hfa.symm.trans (PySem.W.mg_of X G a_law)
  cases e
  have F_l_cell := fun_mk (st := s_l_cell) l_l_cell c_l_cell k_l_cell
  have b_l_cell := F_l_cell.binds (ps := ["_law_script", "_law_k"]) fun _ _ _ _ _ _ us hl => match us, hl with | [_, _], _ => rfl
  have F_l_row := fun_mk (st := s_l_row) l_l_row c_l_row k_l_row
  have b_l_row := F_l_row.binds (ps := ["_law_cell_here", "_law_sizes"]) fun _ _ _ _ _ _ us hl => match us, hl with | [_, _], _ => rfl
  have F_l_drawn := fun_mk (st := s_l_drawn) l_l_drawn c_l_drawn k_l_drawn
  have b_l_drawn := F_l_drawn.binds (ps := ["_law_cell_here", "_law_n"]) fun _ _ _ _ _ _ us hl => match us, hl with | [_, _], _ => rfl
  have F_l_size := fun_mk (st := s_l_size) l_l_size c_l_size k_l_size
  have b_l_size := F_l_size.binds (ps := ["_law_draw"]) fun _ _ _ _ _ _ us hl => match us, hl with | [_], _ => rfl
  have F_l_rings := fun_mk (st := s_l_rings) l_l_rings c_l_rings k_l_rings
  have b_l_rings := F_l_rings.binds (ps := ["_law_images"]) fun _ _ _ _ _ _ us hl => match us, hl with | [_], _ => rfl
  have F_moves_of : FunD K "moves_of" "moves_of" (defArgs s_moves_of) (defBody s_moves_of) (defScope s_moves_of) [.non] [] f_moves_of _ := ⟨⟨_, _, _, _, _, _, _, _, _, _, rfl, l_moves_of, c_moves_of, .inr ⟨by simp, _, _, [.none], _, rfl, lT_moves_of, rfl, .cons rfl .nil⟩, .inl rfl⟩, k_moves_of⟩
  obtain ⟨ds_moves_of, vd_moves_of, b_moves_of⟩ := F_moves_of.binds1 (ps := ["rings", "size"]) 2 1 (by simp) rfl fun _ _ _ _ _ _ _ us its h1 h2 => match us, its, h1, h2 with | [_, _], [_], _, _ => ⟨_, rfl, rfl⟩
  have F_rings_of := fun_mk (st := s_rings_of) l_rings_of c_rings_of k_rings_of
  have b_rings_of := F_rings_of.binds (ps := ["moves"]) fun _ _ _ _ _ _ us hl => match us, hl with | [_], _ => rfl
  have F_rings_text := fun_mk (st := s_rings_text) l_rings_text c_rings_text k_rings_text
  have b_rings_text := F_rings_text.binds (ps := ["rings"]) fun _ _ _ _ _ _ us hl => match us, hl with | [_], _ => rfl
  have F_Wire_init := fun_mk (st := s_Wire_init) l_Wire_init c_Wire_init k_Wire_init
  have b_Wire_init := F_Wire_init.binds (ps := ["self", "size", "rings"]) fun _ _ _ _ _ _ us hl => match us, hl with | [_, _, _], _ => rfl
  have F_Wire_rings := fun_mk (st := s_Wire_rings) l_Wire_rings c_Wire_rings k_Wire_rings
  have b_Wire_rings := F_Wire_rings.binds (ps := ["self"]) fun _ _ _ _ _ _ us hl => match us, hl with | [_], _ => rfl
  have F_Wire_images := fun_mk (st := s_Wire_images) l_Wire_images c_Wire_images k_Wire_images
  have b_Wire_images := F_Wire_images.binds (ps := ["self"]) fun _ _ _ _ _ _ us hl => match us, hl with | [_], _ => rfl
  have F_Wire_getitem := fun_mk (st := s_Wire_getitem) l_Wire_getitem c_Wire_getitem k_Wire_getitem
  have b_Wire_getitem := F_Wire_getitem.binds (ps := ["self", "at"]) fun _ _ _ _ _ _ us hl => match us, hl with | [_, _], _ => rfl
  have F_Wire_eq := fun_mk (st := s_Wire_eq) l_Wire_eq c_Wire_eq k_Wire_eq
  have b_Wire_eq := F_Wire_eq.binds (ps := ["self", "other"]) fun _ _ _ _ _ _ us hl => match us, hl with | [_, _], _ => rfl
  have F_Wire_str := fun_mk (st := s_Wire_str) l_Wire_str c_Wire_str k_Wire_str
  have b_Wire_str := F_Wire_str.binds (ps := ["self"]) fun _ _ _ _ _ _ us hl => match us, hl with | [_], _ => rfl
  have F_NoSize_init := fun_mk (st := s_NoSize_init) l_NoSize_init c_NoSize_init k_NoSize_init
  have b_NoSize_init := F_NoSize_init.binds (ps := ["self", "size"]) fun _ _ _ _ _ _ us hl => match us, hl with | [_, _], _ => rfl
  have F_NoRing_init := fun_mk (st := s_NoRing_init) l_NoRing_init c_NoRing_init k_NoRing_init
  have b_NoRing_init := F_NoRing_init.binds (ps := ["self", "index"]) fun _ _ _ _ _ _ us hl => match us, hl with | [_, _], _ => rfl
  have F_NoPlace_init := fun_mk (st := s_NoPlace_init) l_NoPlace_init c_NoPlace_init k_NoPlace_init
  have b_NoPlace_init := F_NoPlace_init.binds (ps := ["self", "place"]) fun _ _ _ _ _ _ us hl => match us, hl with | [_, _], _ => rfl
  have F_Part_init := fun_mk (st := s_Part_init) l_Part_init c_Part_init k_Part_init
  have b_Part_init := F_Part_init.binds (ps := ["self", "name", "back", "moves"]) fun _ _ _ _ _ _ us hl => match us, hl with | [_, _, _, _], _ => rfl
  have F_known_part := fun_mk (st := s_known_part) l_known_part c_known_part k_known_part
  have b_known_part := F_known_part.binds (ps := ["moves"]) fun _ _ _ _ _ _ us hl => match us, hl with | [_], _ => rfl
  have F_one_form := fun_mk (st := s_one_form) l_one_form c_one_form k_one_form
  have b_one_form := F_one_form.binds (ps := ["parts", "kinds"]) fun _ _ _ _ _ _ us hl => match us, hl with | [_, _], _ => rfl
  have F_Word_init := fun_mk (st := s_Word_init) l_Word_init c_Word_init k_Word_init
  have b_Word_init := F_Word_init.binds (ps := ["self", "parts", "kinds"]) fun _ _ _ _ _ _ us hl => match us, hl with | [_, _, _], _ => rfl
  have F_Word_known := fun_mk (st := s_Word_known) l_Word_known c_Word_known k_Word_known
  have b_Word_known := F_Word_known.binds (ps := ["rings"]) fun _ _ _ _ _ _ us hl => match us, hl with | [_], _ => rfl
  have F_l_wire := fun_mk (st := s_l_wire) l_l_wire c_l_wire k_l_wire
  have b_l_wire := F_l_wire.binds (ps := ["_law_images"]) fun _ _ _ _ _ _ us hl => match us, hl with | [_], _ => rfl
  have F_l_is_wire := fun_mk (st := s_l_is_wire) l_l_is_wire c_l_is_wire k_l_is_wire
  have b_l_is_wire := F_l_is_wire.binds (ps := ["_law_wire_here", "_law_images"]) fun _ _ _ _ _ _ us hl => match us, hl with | [_, _], _ => rfl
  have F_l_refused := fun_mk (st := s_l_refused) l_l_refused c_l_refused k_l_refused
  have b_l_refused := F_l_refused.binds (ps := ["_law_size_here", "_law_rings_here"]) fun _ _ _ _ _ _ us hl => match us, hl with | [_, _], _ => rfl
  have F_l_no_place := fun_mk (st := s_l_no_place) l_l_no_place c_l_no_place k_l_no_place
  have b_l_no_place := F_l_no_place.binds (ps := ["_law_wire_here", "_law_place"]) fun _ _ _ _ _ _ us hl => match us, hl with | [_, _], _ => rfl
  have F_l_told := fun_mk (st := s_l_told) l_l_told c_l_told k_l_told
  have b_l_told := F_l_told.binds (ps := ["_law_images", "_law_with_single", "_law_turn", "_law_is_turned"]) fun _ _ _ _ _ _ us hl => match us, hl with | [_, _, _, _], _ => rfl
  have F_l_fault := fun_mk (st := s_l_fault) l_l_fault c_l_fault k_l_fault
  have b_l_fault := F_l_fault.binds (ps := ["_law_rings_here", "_law_size_here", "_law_kind", "_law_at", "_law_more"]) fun _ _ _ _ _ _ us hl => match us, hl with | [_, _, _, _, _], _ => rfl
  have F_l_is_alone := fun_mk (st := s_l_is_alone) l_l_is_alone c_l_is_alone k_l_is_alone
  have b_l_is_alone := F_l_is_alone.binds (ps := ["_law_wire_here", "_law_images", "_law_rings_here"]) fun _ _ _ _ _ _ us hl => match us, hl with | [_, _, _], _ => rfl
  have F_l_is_kept := fun_mk (st := s_l_is_kept) l_l_is_kept c_l_is_kept k_l_is_kept
  have b_l_is_kept := F_l_is_kept.binds (ps := ["_law_wire_here", "_law_images"]) fun _ _ _ _ _ _ us hl => match us, hl with | [_, _], _ => rfl
  have F_law := fun_mk (st := s_law) l_law c_law k_law
  refine ⟨PySem.W.fnOf "law" "law" (defArgs s_law) (defBody s_law) (defScope s_law) .none kV_law dc_law pm_law an_law cd_law ct_law, fun s v => .of_eq rfl, fun base hb1 hb2 => ?_⟩
  have N := fun {x : Str} (z : PySem.W.nsIn K mainGlobals x = some none) => PySem.W.mg_none_of X G z
  have B : Blt mg := ⟨N z_len, N z_range, N z_int, N z_list, N z_enumerate, N z_dict, N z_zip, N z_set, N z_sorted, N z_all, N z_abs, N z_isinstance, N z_bool⟩
  have cl : Cls K C_Wire := ⟨pg_Wire, hd_Wire, po_Wire, sa_Wire⟩
  have clP : Cls K C_Part := ⟨pg_Part, hd_Part, po_Part, sa_Part⟩
  have clW : Cls K C_Word := ⟨pg_Word, hd_Word, po_Word, sa_Word⟩
  have W : WTxt K C_Wire := ⟨cl, n_Wire_size, n_Wire__images⟩
  have WP : PTxt K C_Part := ⟨clP, n_Part_name, n_Part_back, n_Part_moves⟩
  have WW : WdTxt K C_Word := ⟨clW, n_Word_parts, n_Word__kinds⟩
  have T : BltC K mg C_Wire := { toBlt := B, cl := cl }
  have TT : WTop K mg C_Wire := { toBltC := T, g_Wire := PySem.W.mg_of X G g_Wire, cla := clw, hget := hget, htk := htk, hmro := hmw }
  have hfn : ∀ f, PySem.W.findIn K (.ref C_Wire) "__getitem__" = some (some (.ref f)) → PySem.W.fnIn K f = true := fun f e => by
    have z := a_Wire_getitem.symm.trans e
    cases z
    exact fnget
  have okC : ((PySem.W.clsIn K C_Wire).isSome && PySem.W.typeIn K (.ref C_Wire) == some (.type "type")) = true := by rw [hcd, hty]; rfl
  have O : Oths K C_Wire C_Word := ⟨⟨kitNo okC nf_no rfl, nf_no⟩, ⟨kitNo okC nf_in rfl, nf_in⟩, ⟨kitNo okC nf_bl rfl, nf_bl⟩, ⟨kitNo okC nf_ls rfl, nf_ls⟩, ⟨kitNo okC nf_st rfl, nf_st⟩, ⟨kitNo okC nf_wd (by rw [beq_eq_false_iff_ne]; intro z; exact ne3 (Value.ref.inj z)), nf_wd⟩⟩
  have nfC : PySem.W.notFirst K C_Wire (.ref C_Wire) = true := by unfold PySem.W.notFirst; rw [beq_self_eq_true]; rfl
  have X_NS : ErrAt K C_NoSize C_WireError := ⟨_, _, _, _, _, _, _, _, _, _, _, _, _, _, x_NoSize⟩
  have X_NR : ErrAt K C_NoRing C_WireError := ⟨_, _, _, _, _, _, _, _, _, _, _, _, _, _, x_NoRing⟩
  have X_NP : ErrAt K C_NoPlace C_WireError := ⟨_, _, _, _, _, _, _, _, _, _, _, _, _, _, x_NoPlace⟩
  have E_NS : ErrC K C_NoSize := X_NS.errC sa_NoSize ga_NoSize gg_NoSize cl_NoSize kc_NoSize hget htk
  have E_NR : ErrC K C_NoRing := X_NR.errC sa_NoRing ga_NoRing gg_NoRing cl_NoRing kc_NoRing hget htk
  have E_NP : ErrC K C_NoPlace := X_NP.errC sa_NoPlace ga_NoPlace gg_NoPlace cl_NoPlace kc_NoPlace hget htk
  have g_NS := PySem.W.mg_of X G g_NoSize
  have g_NR := PySem.W.mg_of X G g_NoRing
  have g_NP := PySem.W.mg_of X G g_NoPlace
  have D_NS : ErrOk l.prog w K mg base CX0 1 C_NoSize "NoSize" "size" "size" := ⟨E_NS, g_NS, _, _, a_NoSize_init, i_NoSize_init, b_NoSize_init, ok_NoSize_init F_NoSize_init E_NS no_NoSize⟩
  have D_NR : ErrOk l.prog w K mg base CX0 1 C_NoRing "NoRing" "index" "index" := ⟨E_NR, g_NR, _, _, a_NoRing_init, i_NoRing_init, b_NoRing_init, ok_NoRing_init F_NoRing_init E_NR no_NoRing⟩
  have D_NP : ErrOk l.prog w K mg base CX0 1 C_NoPlace "NoPlace" "place" "place" := ⟨E_NP, g_NP, _, _, a_NoPlace_init, i_NoPlace_init, b_NoPlace_init, ok_NoPlace_init F_NoPlace_init E_NP no_NoPlace⟩
  have D_l_cell : DefOk l.prog w K mg base CX0 1 "_law_cell" ["_law_script", "_law_k"] [] (spCell K) := ⟨_, _, [], PySem.W.mg_of X G a_l_cell, k_l_cell, b_l_cell, .nil, ok_cell F_l_cell B⟩
  have D_l_row : DefOk l.prog w K mg base CX0 1 "_law_row" ["_law_cell_here", "_law_sizes"] [] (spRow K) := ⟨_, _, [], PySem.W.mg_of X G a_l_row, k_l_row, b_l_row, .nil, ok_row F_l_row B⟩
  have D_l_drawn : DefOk l.prog w K mg base CX0 2 "_law_drawn" ["_law_cell_here", "_law_n"] [] spDrawn := ⟨_, _, [], PySem.W.mg_of X G a_l_drawn, k_l_drawn, b_l_drawn, .nil, ok_drawn F_l_drawn B D_l_row⟩
  have D_l_size : DefOk l.prog w K mg base CX0 1 "_law_size" ["_law_draw"] [] spSize := ⟨_, _, [], PySem.W.mg_of X G a_l_size, k_l_size, b_l_size, .nil, ok_size F_l_size⟩
  have D_l_rings : DefOk l.prog w K mg base CX0 1 "_law_rings" ["_law_images"] [] (spRings K) := ⟨_, _, [], PySem.W.mg_of X G a_l_rings, k_l_rings, b_l_rings, .nil, ok_l_rings F_l_rings B⟩
  have D_moves_of : DefOk l.prog w K mg base CX0 1 "moves_of" ["rings", "size"] [] (spMoves K) := ⟨_, _, ds_moves_of, PySem.W.mg_of X G a_moves_of, k_moves_of, b_moves_of, vd_moves_of, ok_moves_of F_moves_of B⟩
  obtain ⟨ds1, vd1, b1⟩ := F_moves_of.binds1 (ps := ["rings", "size"]) 1 0 (by simp) rfl fun _ _ _ _ _ _ _ us its h1 h2 => match us, its, h1, h2 with | [_], [_], _, _ => ⟨_, rfl, rfl⟩
  have D_moves_of1 : DefOk l.prog w K mg base CX0 1 "moves_of" ["rings", "size"] [.non] (spMoves K) := ⟨_, _, ds1, PySem.W.mg_of X G a_moves_of, k_moves_of, b1, vd1, ok_moves_of F_moves_of B⟩
  have D_moves_ofX : DefOk l.prog w K mg base (L2.CX l.prog w) 3 "moves_of" ["rings", "size"] [] (spMovesX K C_NoRing) := ⟨_, _, ds_moves_of, PySem.W.mg_of X G a_moves_of, k_moves_of, b_moves_of, vd_moves_of, ok_moves_ofX F_moves_of B D_NR⟩
  have D_rings_of : DefOk l.prog w K mg base CX0 1 "rings_of" ["moves"] [] spRingsOf := ⟨_, _, [], PySem.W.mg_of X G a_rings_of, k_rings_of, b_rings_of, .nil, ok_rings_of F_rings_of B⟩
  have D_rings_text : DefOk l.prog w K mg base CX0 1 "rings_text" ["rings"] [] (spText K) := ⟨_, _, [], PySem.W.mg_of X G a_rings_text, k_rings_text, b_rings_text, .nil, ok_rings_text F_rings_text B (N z_str)⟩
  have M_Wire : MakeOk l.prog w K mg base CX0 2 C_Wire "Wire" ["self", "size", "rings"] [] (spInit K C_Wire) := ⟨PySem.W.mg_of X G g_Wire, _, _, [], ⟨mk_Wire, a_Wire_init, i_Wire_init, kc_Wire⟩, b_Wire_init, .nil, ok_Wire_init F_Wire_init B W D_moves_of⟩
  have M_WireX : MakeOk l.prog w K mg base (L2.CX l.prog w) 4 C_Wire "Wire" ["self", "size", "rings"] [] (spInitX K C_Wire C_NoSize C_NoRing) := ⟨PySem.W.mg_of X G g_Wire, _, _, [], ⟨mk_Wire, a_Wire_init, i_Wire_init, kc_Wire⟩, b_Wire_init, .nil, ok_Wire_initX F_Wire_init D_moves_ofX D_NS⟩
  have D_Wire_rings : MethOk l.prog w K mg base CX0 2 C_Wire "rings" ["self"] [] (spWRings C_Wire) := ⟨_, _, [], ⟨a_Wire_rings, i_Wire_rings, k_Wire_rings⟩, b_Wire_rings, .nil, ok_Wire_rings F_Wire_rings B W D_rings_of⟩
  have D_Wire_images : MethOk l.prog w K mg base CX0 1 C_Wire "images" ["self"] [] (spImages C_Wire) := ⟨_, _, [], ⟨a_Wire_images, i_Wire_images, k_Wire_images⟩, b_Wire_images, .nil, ok_Wire_images F_Wire_images B W⟩
  have D_Wire_getitem : MethOk l.prog w K mg base CX0 1 C_Wire "__getitem__" ["self", "at"] [] (spGet C_Wire) := ⟨_, _, [], ⟨a_Wire_getitem, i_Wire_getitem, k_Wire_getitem⟩, b_Wire_getitem, .nil, ok_Wire_getitem F_Wire_getitem B W⟩
  have D_getX : MethOk l.prog w K mg base (L2.CX l.prog w) 3 C_Wire "__getitem__" ["self", "at"] [] (spGetX C_Wire C_NoPlace) := ⟨_, _, [], ⟨a_Wire_getitem, i_Wire_getitem, k_Wire_getitem⟩, b_Wire_getitem, .nil, ok_Wire_getitemX F_Wire_getitem W D_NP⟩
  have D_Wire_eq : MethOk l.prog w K mg base CX0 1 C_Wire "__eq__" ["self", "other"] [] (spEq K C_Wire) := ⟨_, _, [], ⟨a_Wire_eq, i_Wire_eq, k_Wire_eq⟩, b_Wire_eq, .nil, ok_Wire_eq F_Wire_eq TT W⟩
  have D_Wire_str : MethOk l.prog w K mg base CX0 3 C_Wire "__str__" ["self"] [] (spStr C_Wire) := ⟨_, _, [], ⟨a_Wire_str, i_Wire_str, k_Wire_str⟩, b_Wire_str, .nil, ok_Wire_str F_Wire_str T W D_Wire_rings D_rings_text⟩
  have M_Part : MakeOk l.prog w K mg base CX0 1 C_Part "Part" ["self", "name", "back", "moves"] [] (spPart C_Part) := ⟨PySem.W.mg_of X G g_Part, _, _, [], ⟨mk_Part, a_Part_init, i_Part_init, kc_Part⟩, b_Part_init, .nil, ok_Part_init F_Part_init WP⟩
  have D_known_part : DefOk l.prog w K mg base CX0 3 "known_part" ["moves"] [] (spKnownPart C_Part) := ⟨_, _, [], PySem.W.mg_of X G a_known_part, k_known_part, b_known_part, .nil, ok_known_part F_known_part M_Part⟩
  have D_one_form : DefOk l.prog w K mg base CX0 3 "one_form" ["parts", "kinds"] [] (spOne1 K C_Part) := ⟨_, _, [], PySem.W.mg_of X G a_one_form, k_one_form, b_one_form, .nil, ok_one_form1 F_one_form WP M_Part⟩
  have M_Word : MakeOk l.prog w K mg base CX0 4 C_Word "Word" ["self", "parts", "kinds"] [] (spWd1 K C_Part C_Word) := ⟨PySem.W.mg_of X G g_Word, _, _, [], ⟨mk_Word, a_Word_init, i_Word_init, kc_Word⟩, b_Word_init, .nil, ok_Word_init1 F_Word_init B WW WP D_one_form⟩
  have S_Word_known : StatOk l.prog w K mg base CX0 6 C_Word "known" ["rings"] [] (spKnown K C_Word) := ⟨_, _, _, _, [], ⟨st_Word_known, sd_Word_known, sg_Word_known, sf_Word_known, ⟨_, sc_Word_known⟩, k_Word_known⟩, b_Word_known, .nil, ok_Word_known F_Word_known D_moves_of1 D_known_part M_Word⟩
  have D_l_wire : DefOk l.prog w K mg base CX0 4 "_law_wire" ["_law_images"] [] (spLWire K C_Wire) := ⟨_, _, [], PySem.W.mg_of X G a_l_wire, k_l_wire, b_l_wire, .nil, ok_l_wire F_l_wire B M_Wire D_l_rings⟩
  have D_l_is_wire : DefOk l.prog w K mg base CX0 3 "_law_is_wire" ["_law_wire_here", "_law_images"] [] (spIsWire K C_Wire) := ⟨_, _, [], PySem.W.mg_of X G a_l_is_wire, k_l_is_wire, b_l_is_wire, .nil, ok_l_is_wire F_l_is_wire TT W hfn D_Wire_getitem⟩
  have D_l_refused : DefOk l.prog w K mg base CX0 6 "_law_refused" ["_law_size_here", "_law_rings_here"] [] (spRefused K) := ⟨_, _, [], PySem.W.mg_of X G a_l_refused, k_l_refused, b_l_refused, .nil, ok_l_refused F_l_refused E_NS E_NR g_NS g_NR no_NoSize no_NoRing X_NS.exm (X_NR.exmNo X_NS ne1 ne2) X_NR.exm M_WireX⟩
  have D_l_taken : DefOk l.prog w K mg base CX0 4 "_law_refused" ["_law_size_here", "_law_rings_here"] [] (spTaken K) := ⟨_, _, [], PySem.W.mg_of X G a_l_refused, k_l_refused, b_l_refused, .nil, ok_l_taken F_l_refused M_Wire⟩
  have D_l_no_place : DefOk l.prog w K mg base CX0 5 "_law_no_place" ["_law_wire_here", "_law_place"] [] (spNoPlace C_Wire) := ⟨_, _, [], PySem.W.mg_of X G a_l_no_place, k_l_no_place, b_l_no_place, .nil, ok_l_no_place F_l_no_place E_NP g_NP no_NoPlace X_NP.exm hfn D_getX⟩
  have D_l_told : DefOk l.prog w K mg base CX0 2 "_law_told" ["_law_images", "_law_with_single", "_law_turn", "_law_is_turned"] [] (spTold K) := ⟨_, _, [], PySem.W.mg_of X G a_l_told, k_l_told, b_l_told, .nil, ok_l_told F_l_told B D_l_rings⟩
  have D_l_fault : DefOk l.prog w K mg base CX0 1 "_law_fault" ["_law_rings_here", "_law_size_here", "_law_kind", "_law_at", "_law_more"] [] (spFault K) := ⟨_, _, [], PySem.W.mg_of X G a_l_fault, k_l_fault, b_l_fault, .nil, ok_l_fault F_l_fault B⟩
  have D_l_is_alone : DefOk l.prog w K mg base CX0 7 "_law_is_alone" ["_law_wire_here", "_law_images", "_law_rings_here"] [] (spAlone K C_Wire) := ⟨_, _, [], PySem.W.mg_of X G a_l_is_alone, k_l_is_alone, b_l_is_alone, .nil, ok_l_is_alone F_l_is_alone TT (N z_str) (PySem.W.mg_of X G g_Word) O clW clWd hmwd hne hmw D_Wire_eq D_Wire_str D_l_rings S_Word_known⟩
  have D_l_is_kept : DefOk l.prog w K mg base CX0 3 "_law_is_kept" ["_law_wire_here", "_law_images"] [] (spKept K C_Wire) := ⟨_, _, [], PySem.W.mg_of X G a_l_is_kept, k_l_is_kept, b_l_is_kept, .nil, ok_l_is_kept F_l_is_kept T D_Wire_images D_Wire_rings D_l_rings⟩
  exact ok_law F_law TT hne hmw nfC D_l_cell D_l_row D_l_size D_l_drawn D_l_told M_Wire D_l_is_wire D_Wire_rings D_l_rings D_l_is_kept D_l_is_alone D_Wire_eq D_l_wire D_l_no_place D_l_fault D_l_refused D_l_taken

end TW
open PySem PySem.W PyProof.Rows
set_option maxRecDepth 100000 in
set_option maxHeartbeats 0 in
theorem PySem.Challenge.cw_turnwires_k02_wires_holds : PySem.Challenge.rw_turnwires_k02_wires.Holds := by
  w_on; o_law; k_head; (case hw => w_witness2)
  k_fill
  refine L2.walk_of (l := PySem.Challenge.rw_turnwires_k02_wires) (n := 63) (k := 8) (x := "_law_script") (CX := fun w => L2.CX0) (sp := fun w => TW.spLaw _) rfl (by decide) rfl ⟨rfl, by decide, by decide⟩ (fun w h Y => PySem.W.kIn_of Y) ?F (fun _ _ a ns hl _ hS => ⟨a, ns, rfl, hS, hl, fun _ => rfl⟩) (fun _ _ _ _ _ h => h)
  case F =>
    intro w mg fa h KX G hmg
    refine' TW.all_mk KX G hmg ?g_Wire ?pg_Wire ?hd_Wire ?po_Wire ?sa_Wire ?mk_Wire ?kc_Wire ?n_Wire_size ?n_Wire__images ?g_Part ?pg_Part ?hd_Part ?po_Part ?sa_Part ?mk_Part ?kc_Part ?n_Part_name ?n_Part_back ?n_Part_moves ?g_Word ?pg_Word ?hd_Word ?po_Word ?sa_Word ?mk_Word ?kc_Word ?n_Word_parts ?n_Word__kinds ?g_WireError ?g_NoSize ?g_NoRing ?g_NoPlace ?x_WireError ?x_NoSize ?kc_NoSize ?sa_NoSize ?ga_NoSize ?gg_NoSize ?cl_NoSize ?no_NoSize ?x_NoRing ?kc_NoRing ?sa_NoRing ?ga_NoRing ?gg_NoRing ?cl_NoRing ?no_NoRing ?x_NoPlace ?kc_NoPlace ?sa_NoPlace ?ga_NoPlace ?gg_NoPlace ?cl_NoPlace ?no_NoPlace ?clw ?clWd ?hget ?htk ?hmw ?hmwd ?hne ?hcd ?hty ?ne1 ?ne2 ?ne3 ?nf_no ?nf_in ?nf_bl ?nf_ls ?nf_st ?nf_wd ?z_len ?z_range ?z_int ?z_list ?z_enumerate ?z_dict ?z_zip ?z_set ?z_sorted ?z_all ?z_abs ?z_isinstance ?z_bool ?z_str ?a_l_cell ?l_l_cell ?c_l_cell ?k_l_cell ?a_l_row ?l_l_row ?c_l_row ?k_l_row ?a_l_drawn ?l_l_drawn ?c_l_drawn ?k_l_drawn ?a_l_size ?l_l_size ?c_l_size ?k_l_size ?a_l_rings ?l_l_rings ?c_l_rings ?k_l_rings ?a_moves_of ?l_moves_of ?lT_moves_of ?c_moves_of ?k_moves_of ?a_rings_of ?l_rings_of ?c_rings_of ?k_rings_of ?a_rings_text ?l_rings_text ?c_rings_text ?k_rings_text ?a_Wire_init ?i_Wire_init ?l_Wire_init ?c_Wire_init ?k_Wire_init ?a_Wire_rings ?i_Wire_rings ?l_Wire_rings ?c_Wire_rings ?k_Wire_rings ?a_Wire_images ?i_Wire_images ?l_Wire_images ?c_Wire_images ?k_Wire_images ?a_Wire_getitem ?i_Wire_getitem ?l_Wire_getitem ?c_Wire_getitem ?k_Wire_getitem ?a_Wire_eq ?i_Wire_eq ?l_Wire_eq ?c_Wire_eq ?k_Wire_eq ?a_Wire_str ?i_Wire_str ?l_Wire_str ?c_Wire_str ?k_Wire_str ?a_NoSize_init ?i_NoSize_init ?l_NoSize_init ?c_NoSize_init ?k_NoSize_init ?a_NoRing_init ?i_NoRing_init ?l_NoRing_init ?c_NoRing_init ?k_NoRing_init ?a_NoPlace_init ?i_NoPlace_init ?l_NoPlace_init ?c_NoPlace_init ?k_NoPlace_init ?a_Part_init ?i_Part_init ?l_Part_init ?c_Part_init ?k_Part_init ?a_known_part ?l_known_part ?c_known_part ?k_known_part ?a_one_form ?l_one_form ?c_one_form ?k_one_form ?a_Word_init ?i_Word_init ?l_Word_init ?c_Word_init ?k_Word_init ?st_Word_known ?sd_Word_known ?sg_Word_known ?sf_Word_known ?sc_Word_known ?l_Word_known ?c_Word_known ?k_Word_known ?a_l_wire ?l_l_wire ?c_l_wire ?k_l_wire ?a_l_is_wire ?l_l_is_wire ?c_l_is_wire ?k_l_is_wire ?a_l_refused ?l_l_refused ?c_l_refused ?k_l_refused ?a_l_no_place ?l_l_no_place ?c_l_no_place ?k_l_no_place ?a_l_told ?l_l_told ?c_l_told ?k_l_told ?a_l_fault ?l_l_fault ?c_l_fault ?k_l_fault ?a_l_is_alone ?l_l_is_alone ?c_l_is_alone ?k_l_is_alone ?a_l_is_kept ?l_l_is_kept ?c_l_is_kept ?k_l_is_kept ?a_law ?l_law ?c_law ?k_law ?fnget
    (case g_Wire => k_is)
    (case pg_Wire => k_is)
    (case hd_Wire => k_is)
    (case po_Wire => k_is)
    (case sa_Wire => k_is)
    (case mk_Wire => k_is)
    (case kc_Wire => k_is)
    (case n_Wire_size => k_is)
    (case n_Wire__images => k_is)
    (case g_Part => k_is)
    (case pg_Part => k_is)
    (case hd_Part => k_is)
    (case po_Part => k_is)
    (case sa_Part => k_is)
    (case mk_Part => k_is)
    (case kc_Part => k_is)
    (case n_Part_name => k_is)
    (case n_Part_back => k_is)
    (case n_Part_moves => k_is)
    (case g_Word => k_is)
    (case pg_Word => k_is)
    (case hd_Word => k_is)
    (case po_Word => k_is)
    (case sa_Word => k_is)
    (case mk_Word => k_is)
    (case kc_Word => k_is)
    (case n_Word_parts => k_is)
    (case n_Word__kinds => k_is)
    (case g_WireError => k_is)
    (case g_NoSize => k_is)
    (case g_NoRing => k_is)
    (case g_NoPlace => k_is)
    (case x_WireError => k_is)
    (case x_NoSize => k_is)
    (case kc_NoSize => k_is)
    (case sa_NoSize => k_is)
    (case ga_NoSize => k_is)
    (case gg_NoSize => k_is)
    (case cl_NoSize => k_is)
    (case no_NoSize => k_is)
    (case x_NoRing => k_is)
    (case kc_NoRing => k_is)
    (case sa_NoRing => k_is)
    (case ga_NoRing => k_is)
    (case gg_NoRing => k_is)
    (case cl_NoRing => k_is)
    (case no_NoRing => k_is)
    (case x_NoPlace => k_is)
    (case kc_NoPlace => k_is)
    (case sa_NoPlace => k_is)
    (case ga_NoPlace => k_is)
    (case gg_NoPlace => k_is)
    (case cl_NoPlace => k_is)
    (case no_NoPlace => k_is)
    (case clw => k_is)
    (case clWd => k_is)
    (case hget => k_is)
    (case htk => k_is)
    (case hmw => k_is)
    (case hmwd => k_is)
    (case hne => k_is)
    (case hcd => k_is)
    (case hty => k_is)
    (case ne1 => decide)
    (case ne2 => decide)
    (case ne3 => decide)
    (case nf_no => k_is)
    (case nf_in => k_is)
    (case nf_bl => k_is)
    (case nf_ls => k_is)
    (case nf_st => k_is)
    (case nf_wd => k_is)
    (case z_len => k_is)
    (case z_range => k_is)
    (case z_int => k_is)
    (case z_list => k_is)
    (case z_enumerate => k_is)
    (case z_dict => k_is)
    (case z_zip => k_is)
    (case z_set => k_is)
    (case z_sorted => k_is)
    (case z_all => k_is)
    (case z_abs => k_is)
    (case z_isinstance => k_is)
    (case z_bool => k_is)
    (case z_str => k_is)
    (case a_l_cell => k_is)
    (case l_l_cell => k_is)
    (case c_l_cell => k_is)
    (case k_l_cell => k_is)
    (case a_l_row => k_is)
    (case l_l_row => k_is)
    (case c_l_row => k_is)
    (case k_l_row => k_is)
    (case a_l_drawn => k_is)
    (case l_l_drawn => k_is)
    (case c_l_drawn => k_is)
    (case k_l_drawn => k_is)
    (case a_l_size => k_is)
    (case l_l_size => k_is)
    (case c_l_size => k_is)
    (case k_l_size => k_is)
    (case a_l_rings => k_is)
    (case l_l_rings => k_is)
    (case c_l_rings => k_is)
    (case k_l_rings => k_is)
    (case a_moves_of => k_is)
    (case l_moves_of => k_is)
    (case lT_moves_of => k_is)
    (case c_moves_of => k_is)
    (case k_moves_of => k_is)
    (case a_rings_of => k_is)
    (case l_rings_of => k_is)
    (case c_rings_of => k_is)
    (case k_rings_of => k_is)
    (case a_rings_text => k_is)
    (case l_rings_text => k_is)
    (case c_rings_text => k_is)
    (case k_rings_text => k_is)
    (case a_Wire_init => k_is)
    (case i_Wire_init => k_is)
    (case l_Wire_init => k_is)
    (case c_Wire_init => k_is)
    (case k_Wire_init => k_is)
    (case a_Wire_rings => k_is)
    (case i_Wire_rings => k_is)
    (case l_Wire_rings => k_is)
    (case c_Wire_rings => k_is)
    (case k_Wire_rings => k_is)
    (case a_Wire_images => k_is)
    (case i_Wire_images => k_is)
    (case l_Wire_images => k_is)
    (case c_Wire_images => k_is)
    (case k_Wire_images => k_is)
    (case a_Wire_getitem => k_is)
    (case i_Wire_getitem => k_is)
    (case l_Wire_getitem => k_is)
    (case c_Wire_getitem => k_is)
    (case k_Wire_getitem => k_is)
    (case a_Wire_eq => k_is)
    (case i_Wire_eq => k_is)
    (case l_Wire_eq => k_is)
    (case c_Wire_eq => k_is)
    (case k_Wire_eq => k_is)
    (case a_Wire_str => k_is)
    (case i_Wire_str => k_is)
    (case l_Wire_str => k_is)
    (case c_Wire_str => k_is)
    (case k_Wire_str => k_is)
    (case a_NoSize_init => k_is)
    (case i_NoSize_init => k_is)
    (case l_NoSize_init => k_is)
    (case c_NoSize_init => k_is)
    (case k_NoSize_init => k_is)
    (case a_NoRing_init => k_is)
    (case i_NoRing_init => k_is)
    (case l_NoRing_init => k_is)
    (case c_NoRing_init => k_is)
    (case k_NoRing_init => k_is)
    (case a_NoPlace_init => k_is)
    (case i_NoPlace_init => k_is)
    (case l_NoPlace_init => k_is)
    (case c_NoPlace_init => k_is)
    (case k_NoPlace_init => k_is)
    (case a_Part_init => k_is)
    (case i_Part_init => k_is)
    (case l_Part_init => k_is)
    (case c_Part_init => k_is)
    (case k_Part_init => k_is)
    (case a_known_part => k_is)
    (case l_known_part => k_is)
    (case c_known_part => k_is)
    (case k_known_part => k_is)
    (case a_one_form => k_is)
    (case l_one_form => k_is)
    (case c_one_form => k_is)
    (case k_one_form => k_is)
    (case a_Word_init => k_is)
    (case i_Word_init => k_is)
    (case l_Word_init => k_is)
    (case c_Word_init => k_is)
    (case k_Word_init => k_is)
    (case st_Word_known => k_is)
    (case sd_Word_known => k_is)
    (case sg_Word_known => k_is)
    (case sf_Word_known => k_is)
    (case sc_Word_known => k_is)
    (case l_Word_known => k_is)
    (case c_Word_known => k_is)
    (case k_Word_known => k_is)
    (case a_l_wire => k_is)
    (case l_l_wire => k_is)
    (case c_l_wire => k_is)
    (case k_l_wire => k_is)
    (case a_l_is_wire => k_is)
    (case l_l_is_wire => k_is)
    (case c_l_is_wire => k_is)
    (case k_l_is_wire => k_is)
    (case a_l_refused => k_is)
    (case l_l_refused => k_is)
    (case c_l_refused => k_is)
    (case k_l_refused => k_is)
    (case a_l_no_place => k_is)
    (case l_l_no_place => k_is)
    (case c_l_no_place => k_is)
    (case k_l_no_place => k_is)
    (case a_l_told => k_is)
    (case l_l_told => k_is)
    (case c_l_told => k_is)
    (case k_l_told => k_is)
    (case a_l_fault => k_is)
    (case l_l_fault => k_is)
    (case c_l_fault => k_is)
    (case k_l_fault => k_is)
    (case a_l_is_alone => k_is)
    (case l_l_is_alone => k_is)
    (case c_l_is_alone => k_is)
    (case k_l_is_alone => k_is)
    (case a_l_is_kept => k_is)
    (case l_l_is_kept => k_is)
    (case c_l_is_kept => k_is)
    (case k_l_is_kept => k_is)
    (case a_law => k_is)
    (case l_law => k_is)
    (case c_law => k_is)
    (case k_law => k_is)
    (case fnget => k_is)
#print axioms PySem.Challenge.cw_turnwires_k02_wires_holds
