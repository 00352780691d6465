import PyProof.Rows.All
import Wide.All
import OpenK.AllK
import Wide.FinOn
import HandS.ForMost
import HandS.Walk
import HandS.Strs
import HandS.IsInst
import HandS.Gcd
import HandS.Defaults
import HandS.More
import HandS.Conv
import KE.KDictZip
import KE.KMathG
import HandS.ExcInit
import HandS.ExcField
import HandS.ExcIs
import HandS.ExcOwn
import HandS.ExcValue
import KE.KExcIs
import KE.KOpsOwn
import HandS.WordsExc
import HandS.CallSlots
import PySem.Challenge.RW_turnwires_k03_wires_one_behind_another
set_option Elab.async false
set_option linter.all false
set_option maxRecDepth 100000
namespace TW
/-! ### iteration -/
def it (f : Nat → Nat) : Nat → Nat → Nat
  | 0, x => x
  | k + 1, x => f (it f k x)
theorem it_add (f : Nat → Nat) (a b x : Nat) : it f (a + b) x = it f a (it f b x) := by
  induction a with
  | zero => rw [Nat.zero_add]; rfl
  | succ a ih => rw [Nat.succ_add]; show f (it f (a + b) x) = f (it f a (it f b x)); rw [ih]
theorem it_succ' (f : Nat → Nat) (k x : Nat) : it f (k + 1) x = it f k (f x) := it_add f k 1 x
/-- f leads the places below n to places below n, one to one -/
structure PermF (f : Nat → Nat) (n : Nat) : Prop where
  lt : ∀ x, x < n → f x < n
  inj : ∀ x y, x < n → y < n → f x = f y → x = y
theorem PermF.it_lt {f : Nat → Nat} {n : Nat} (P : PermF f n) (k : Nat) {x : Nat} (h : x < n) : it f k x < n := by
  induction k with
  | zero => exact h
  | succ k ih => exact P.lt _ ih
theorem PermF.it_inj {f : Nat → Nat} {n : Nat} (P : PermF f n) (k : Nat) {x y : Nat} (hx : x < n) (hy : y < n) (e : it f k x = it f k y) : x = y := by
  induction k with
  | zero => exact e
  | succ k ih => exact ih (P.inj _ _ (P.it_lt k hx) (P.it_lt k hy) e)
theorem nodup_le : ∀ (n : Nat) (l : List Nat), l.Nodup → (∀ x ∈ l, x < n) → l.length ≤ n
  | 0, l, _, h => by
    cases l with
    | nil => exact Nat.le_refl _
    | cons a r => exact absurd (h a List.mem_cons_self) (Nat.not_lt_zero _)
  | n + 1, l, nd, h => by
    have h1 : (l.erase n).Nodup := nd.erase n
    have h2 : ∀ x ∈ l.erase n, x < n := fun x hx => by
      have a := (List.Nodup.mem_erase_iff nd).mp hx
      have b := h x a.2
      have c := a.1
      omega
    have ih := nodup_le n (l.erase n) h1 h2
    have e : l.length ≤ (l.erase n).length + 1 := by
      rw [List.length_erase]
      split <;> omega
    omega
theorem not_nodup_of_long {n : Nat} {l : List Nat} (h : ∀ x ∈ l, x < n) (hl : n < l.length) : ¬ l.Nodup := fun nd => by
  have := nodup_le n l nd h
  omega
theorem exists_return {f : Nat → Nat} {n : Nat} (P : PermF f n) {p : Nat} (hp : p < n) : ∃ m, 0 < m ∧ m ≤ n ∧ it f m p = p := by
  by_cases hex : ∃ i j, i < j ∧ j ≤ n ∧ it f i p = it f j p
  · obtain ⟨i, j, hij, hj, e⟩ := hex
    refine ⟨j - i, by omega, by omega, ?_⟩
    have e2 : j = i + (j - i) := by omega
    rw [e2, it_add] at e
    exact (P.it_inj i hp (P.it_lt _ hp) e).symm
  · exfalso
    refine not_nodup_of_long (n := n) (l := (List.range (n + 1)).map fun k => it f k p) ?_ ?_ ?_
    · intro x hx
      obtain ⟨k, _, rfl⟩ := List.mem_map.mp hx
      exact P.it_lt k hp
    · rw [List.length_map, List.length_range]; omega
    · rw [List.nodup_iff_pairwise_ne, List.pairwise_map]
      refine List.Pairwise.imp_of_mem ?_ (List.pairwise_lt_range (n := n + 1))
      intro a b ha hb hab e
      exact hex ⟨a, b, hab, by have := List.mem_range.mp hb; omega, e⟩
/-- the least k ≥ 1 with it f k p = p, sought below n -/
def perA (f : Nat → Nat) (p : Nat) : Nat → Nat → Nat
  | 0, k => k
  | fuel + 1, k => if it f k p = p then k else perA f p fuel (k + 1)
def per (f : Nat → Nat) (n p : Nat) : Nat := perA f p n 1
theorem perA_spec (f : Nat → Nat) (p : Nat) : ∀ (fuel k m : Nat), k ≤ m → m < k + fuel → it f m p = p → (∀ i, 0 < i → i < k → it f i p ≠ p) → 0 < k →
    0 < perA f p fuel k ∧ it f (perA f p fuel k) p = p ∧ perA f p fuel k ≤ m ∧ ∀ i, 0 < i → i < perA f p fuel k → it f i p ≠ p
  | 0, k, m, h1, h2, _, _, _ => by omega
  | fuel + 1, k, m, h1, h2, e, hl, hk => by
    unfold perA
    by_cases c : it f k p = p
    · rw [if_pos c]
      exact ⟨hk, c, h1, hl⟩
    · rw [if_neg c]
      have hkm : k ≠ m := fun z => c (z ▸ e)
      refine perA_spec f p fuel (k + 1) m (by omega) (by omega) e (fun i i0 ik => ?_) (by omega)
      by_cases ci : i = k
      · rw [ci]; exact c
      · exact hl i i0 (by omega)
section
variable {f : Nat → Nat} {n : Nat} (P : PermF f n) {p : Nat} (hp : p < n)
include P hp
theorem per_spec : 0 < per f n p ∧ it f (per f n p) p = p ∧ per f n p ≤ n ∧ ∀ i, 0 < i → i < per f n p → it f i p ≠ p := by
  obtain ⟨m, h0, hm, e⟩ := exists_return P hp
  obtain ⟨a, b, c, d⟩ := perA_spec f p n 1 m (by omega) (by omega) e (fun i _ _ => by omega) (by omega)
  exact ⟨a, b, Nat.le_trans c hm, d⟩
theorem per_mod (k : Nat) : it f k p = it f (k % per f n p) p := by
  obtain ⟨h0, e, _, _⟩ := per_spec P hp
  have key : ∀ q r, it f (q * per f n p + r) p = it f r p := by
    intro q
    induction q with
    | zero => intro r; rw [Nat.zero_mul, Nat.zero_add]
    | succ q ih =>
      intro r
      rw [show (q + 1) * per f n p + r = (q * per f n p + r) + per f n p by rw [Nat.succ_mul]; omega, it_add, e]
      exact ih r
  conv => lhs; rw [← Nat.div_add_mod k (per f n p), Nat.mul_comm]
  exact key _ _
theorem it_inj_lt {i j : Nat} (hi : i < per f n p) (hj : j < per f n p) (e : it f i p = it f j p) : i = j := by
  obtain ⟨h0, _, _, hl⟩ := per_spec P hp
  have key : ∀ a b, a < b → b < per f n p → it f a p = it f b p → False := by
    intro a b hab hb e
    have e2 : b = a + (b - a) := by omega
    rw [e2, it_add] at e
    exact hl (b - a) (by omega) (by omega) (P.it_inj a hp (P.it_lt _ hp) e).symm
  rcases Nat.lt_trichotomy i j with h | h | h
  · exact (key i j h hj e).elim
  · exact h
  · exact (key j i h hi e.symm).elim
end
/-- the ring of p -/
def ring (f : Nat → Nat) (n p : Nat) : List Nat := (List.range (per f n p)).map fun k => it f k p
theorem ring_len (f : Nat → Nat) (n p : Nat) : (ring f n p).length = per f n p := by unfold ring; rw [List.length_map, List.length_range]
theorem ring_get (f : Nat → Nat) (n p k : Nat) (h : k < per f n p) : (ring f n p)[k]? = some (it f k p) := by
  unfold ring; rw [List.getElem?_map, List.getElem?_range h]; rfl
section
variable {f : Nat → Nat} {n : Nat} (P : PermF f n) {p x : Nat} (hp : p < n)
include P hp
theorem mem_ring : x ∈ ring f n p ↔ ∃ k, it f k p = x := by
  constructor
  · intro h
    obtain ⟨k, _, e⟩ := List.mem_map.mp h
    exact ⟨k, e⟩
  · rintro ⟨k, e⟩
    refine List.mem_map.mpr ⟨k % per f n p, List.mem_range.mpr (Nat.mod_lt _ (per_spec P hp).1), ?_⟩
    rw [← per_mod P hp, e]
theorem ring_lt (h : x ∈ ring f n p) : x < n := by
  obtain ⟨k, rfl⟩ := (mem_ring P hp).mp h
  exact P.it_lt k hp
theorem ring_nodup : (ring f n p).Nodup := by
  unfold ring
  rw [List.nodup_iff_pairwise_ne, List.pairwise_map]
  refine List.Pairwise.imp_of_mem ?_ (List.pairwise_lt_range (n := per f n p))
  intro a b ha hb hab e
  have := it_inj_lt P hp (List.mem_range.mp ha) (List.mem_range.mp hb) e
  omega
theorem self_ring : p ∈ ring f n p := (mem_ring P hp).mpr ⟨0, rfl⟩
theorem ring_symm (h : x ∈ ring f n p) : p ∈ ring f n x := by
  have hx := ring_lt P hp h
  obtain ⟨k, _, e⟩ := List.mem_map.mp h
  have hk := List.mem_range.mp ‹_›
  refine (mem_ring P hx).mpr ⟨per f n p - k, ?_⟩
  have e : it f k p = x := e
  rw [← e, ← it_add, Nat.sub_add_cancel (Nat.le_of_lt hk)]
  exact (per_spec P hp).2.1
theorem ring_trans {y : Nat} (h : x ∈ ring f n p) (h2 : y ∈ ring f n x) : y ∈ ring f n p := by
  have hx := ring_lt P hp h
  obtain ⟨k, e⟩ := (mem_ring P hp).mp h
  obtain ⟨j, e2⟩ := (mem_ring P hx).mp h2
  refine (mem_ring P hp).mpr ⟨j + k, ?_⟩
  rw [it_add, e, e2]
theorem ring_next (h : x ∈ ring f n p) : f x ∈ ring f n p := by
  obtain ⟨k, e⟩ := (mem_ring P hp).mp h
  exact (mem_ring P hp).mpr ⟨k + 1, by show f (it f k p) = f x; rw [e]⟩
theorem per_one : per f n p = 1 ↔ f p = p := by
  obtain ⟨h0, e, _, hl⟩ := per_spec P hp
  constructor
  · intro h
    rw [h] at e
    exact e
  · intro h
    rcases Nat.lt_or_ge 1 (per f n p) with c | c
    · exact absurd h (hl 1 (by omega) c)
    · omega
end
/-- p is the least of its ring -/
def lead (f : Nat → Nat) (n p : Nat) : Bool := (ring f n p).all fun x => decide (p ≤ x)
theorem lead_iff (f : Nat → Nat) (n p : Nat) : lead f n p = true ↔ ∀ x ∈ ring f n p, p ≤ x := by
  unfold lead
  rw [List.all_eq_true]
  constructor
  · intro h x hx; exact of_decide_eq_true (h x hx)
  · intro h x hx; exact decide_eq_true (h x hx)
theorem exists_min : ∀ (l : List Nat), l ≠ [] → ∃ m, m ∈ l ∧ ∀ x ∈ l, m ≤ x
  | [], h => absurd rfl h
  | [a], _ => ⟨a, List.mem_cons_self, fun x hx => by rw [List.mem_singleton.mp hx]; exact Nat.le_refl _⟩
  | a :: b :: r, _ => by
    obtain ⟨m, hm, hl⟩ := exists_min (b :: r) (by simp)
    by_cases c : a ≤ m
    · refine ⟨a, List.mem_cons_self, fun x hx => ?_⟩
      rcases List.mem_cons.mp hx with e | e
      · omega
      · have := hl x e; omega
    · refine ⟨m, List.mem_cons_of_mem _ hm, fun x hx => ?_⟩
      rcases List.mem_cons.mp hx with e | e
      · omega
      · exact hl x e
section
variable {f : Nat → Nat} {n : Nat} (P : PermF f n) {p : Nat} (hp : p < n)
include P hp
/-- the least of p's ring -/
theorem leader_of : ∃ q, q ≤ p ∧ lead f n q = true ∧ p ∈ ring f n q ∧ q ∈ ring f n p := by
  obtain ⟨q, hq, hl⟩ := exists_min (ring f n p) (fun z => by have := self_ring P hp; rw [z] at this; cases this)
  have hqn := ring_lt P hp hq
  refine ⟨q, hl p (self_ring P hp), (lead_iff f n q).mpr fun x hx => hl x (ring_trans P hp hq hx), ring_symm P hp hq, hq⟩
/-- p is no leader just if a lesser leader's ring has it -/
theorem not_lead_iff : lead f n p = false ↔ ∃ q, q < p ∧ lead f n q = true ∧ p ∈ ring f n q := by
  constructor
  · intro h
    obtain ⟨q, hqp, hl, hm, _⟩ := leader_of P hp
    refine ⟨q, ?_, hl, hm⟩
    rcases Nat.lt_or_ge q p with c | c
    · exact c
    · have e : q = p := by omega
      rw [e] at hl
      rw [hl] at h
      cases h
  · rintro ⟨q, hqp, hl, hm⟩
    have hqn : q < n := by omega
    have h2 := ring_symm P hqn hm
    cases c : lead f n p with
    | false => rfl
    | true =>
      have := (lead_iff f n p).mp c q h2
      omega
end
theorem lead_unique {f : Nat → Nat} {n : Nat} (P : PermF f n) {p q x : Nat} (hp : p < n) (hq : q < n) (lp : lead f n p = true) (lq : lead f n q = true) (h1 : x ∈ ring f n p) (h2 : x ∈ ring f n q) : p = q := by
  have hx := ring_lt P hp h1
  have a : p ∈ ring f n q := ring_trans P hq h2 (ring_symm P hp h1)
  have b : q ∈ ring f n p := ring_trans P hp h1 (ring_symm P hq h2)
  have c := (lead_iff f n q).mp lq p a
  have d := (lead_iff f n p).mp lp q b
  omega
/-- the rings of two or more places, of leaders below i -/
def heads (f : Nat → Nat) (n i : Nat) : List Nat := (List.range i).filter fun p => lead f n p && decide (f p ≠ p)
def ringsTo (f : Nat → Nat) (n i : Nat) : List (List Nat) := (heads f n i).map (ring f n)
def rings (f : Nat → Nat) (n : Nat) : List (List Nat) := ringsTo f n n
theorem ringsTo_succ (f : Nat → Nat) (n i : Nat) : ringsTo f n (i + 1) = ringsTo f n i ++ (if lead f n i = true ∧ f i ≠ i then [ring f n i] else []) := by
  unfold ringsTo heads
  rw [List.range_succ, List.filter_append, List.map_append]
  congr 1
  by_cases c : lead f n i = true ∧ f i ≠ i
  · rw [if_pos c, List.filter_cons_of_pos (by simp [c.1, c.2])]
    rfl
  · rw [if_neg c, List.filter_cons_of_neg (by simp only [Bool.and_eq_true, decide_eq_true_eq]; exact c)]
    rfl
theorem mem_heads {f : Nat → Nat} {n i p : Nat} : p ∈ heads f n i ↔ p < i ∧ lead f n p = true ∧ f p ≠ p := by
  unfold heads
  rw [List.mem_filter, List.mem_range, Bool.and_eq_true, decide_eq_true_eq]
end TW

namespace TW
/-! ### a ring's pairs -/
def rot (r : List Nat) : List Nat := r.drop 1 ++ r.take 1
def nxt (r : List Nat) : List (Nat × Nat) := r.zip (rot r)
def graph (f : Nat → Nat) (r : List Nat) : List (Nat × Nat) := r.map fun x => (x, f x)
/-- the ring is led on by f -/
def Follows (f : Nat → Nat) (r : List Nat) : Prop := nxt r = graph f r
theorem rot_len (r : List Nat) : (rot r).length = r.length := by
  unfold rot
  rw [List.length_append, List.length_drop, List.length_take]
  omega
theorem follows_iff {f : Nat → Nat} {r : List Nat} : Follows f r ↔ rot r = r.map f := by
  unfold Follows nxt graph
  constructor
  · intro h
    have e := congrArg (List.map Prod.snd) h
    rw [List.map_snd_zip (by rw [rot_len]; exact Nat.le_refl _), List.map_map] at e
    exact e
  · intro h
    rw [h]
    clear h
    induction r with
    | nil => rfl
    | cons a r ih => show (a, f a) :: r.zip (r.map f) = (a, f a) :: r.map (fun x => (x, f x)); rw [ih]
theorem follows_ring {f : Nat → Nat} {n : Nat} (P : PermF f n) {p : Nat} (hp : p < n) : Follows f (ring f n p) := by
  rw [follows_iff]
  obtain ⟨h0, e, _, _⟩ := per_spec P hp
  apply List.ext_getElem?
  intro i
  unfold rot
  rw [List.getElem?_append, List.length_drop, ring_len, List.getElem?_map]
  by_cases c : i < per f n p - 1
  · rw [if_pos c, List.getElem?_drop, ring_get f n p (1 + i) (by omega), ring_get f n p i (by omega)]
    rw [Nat.add_comm]
    rfl
  · rw [if_neg c]
    by_cases c2 : i = per f n p - 1
    · rw [c2, Nat.sub_self, ring_get f n p _ (by omega), List.getElem?_take]
      rw [if_pos (by omega), ring_get f n p 0 h0]
      show some p = some (f (it f (per f n p - 1) p))
      have : it f (per f n p - 1 + 1) p = f (it f (per f n p - 1) p) := rfl
      rw [← this, Nat.sub_add_cancel h0, e]
    · rw [List.getElem?_take]
      have l : (ring f n p)[i]? = none := List.getElem?_eq_none (by rw [ring_len]; omega)
      rw [l]
      by_cases c3 : i - (per f n p - 1) < 1
      · exfalso; omega
      · rw [if_neg c3]; rfl
/-! ### the heads, once more -/
theorem heads_sorted (f : Nat → Nat) (n i : Nat) : (heads f n i).Pairwise (· < ·) := List.Pairwise.filter _ List.pairwise_lt_range
theorem ext_sorted : ∀ {l m : List Nat}, l.Pairwise (· < ·) → m.Pairwise (· < ·) → (∀ x, x ∈ l ↔ x ∈ m) → l = m
  | [], [], _, _, _ => rfl
  | [], b :: m, _, _, h => absurd ((h b).mpr List.mem_cons_self) (by simp)
  | a :: l, [], _, _, h => absurd ((h a).mp List.mem_cons_self) (by simp)
  | a :: l, b :: m, hl, hm, h => by
    obtain ⟨ha, hl'⟩ := List.pairwise_cons.mp hl
    obtain ⟨hb, hm'⟩ := List.pairwise_cons.mp hm
    have e : a = b := by
      rcases List.mem_cons.mp ((h a).mp List.mem_cons_self) with q | q
      · exact q
      · rcases List.mem_cons.mp ((h b).mpr List.mem_cons_self) with q2 | q2
        · exact q2.symm
        · have := hb a q
          have := ha b q2
          omega
    subst e
    congr 1
    refine ext_sorted hl' hm' fun x => ?_
    constructor
    · intro hx
      rcases List.mem_cons.mp ((h x).mp (List.mem_cons_of_mem _ hx)) with q | q
      · have := ha x hx; omega
      · exact q
    · intro hx
      rcases List.mem_cons.mp ((h x).mpr (List.mem_cons_of_mem _ hx)) with q | q
      · have := hb x hx; omega
      · exact q
/-- sorted keys that hold all places that move give the same heads -/
theorem heads_of {f : Nat → Nat} {n : Nat} {ys : List Nat} (hs : ys.Pairwise (· < ·)) (hlt : ∀ y ∈ ys, y < n) (hall : ∀ x, x < n → f x ≠ x → x ∈ ys) :
    ys.filter (fun p => lead f n p && decide (f p ≠ p)) = heads f n n := by
  refine ext_sorted (List.Pairwise.filter _ hs) (heads_sorted f n n) fun x => ?_
  rw [mem_heads, List.mem_filter, Bool.and_eq_true, decide_eq_true_eq]
  constructor
  · rintro ⟨a, b, c⟩; exact ⟨hlt x a, b, c⟩
  · rintro ⟨a, b, c⟩; exact ⟨hall x a c, b, c⟩
/-! ### all rings in a row -/
theorem flatten_nodup {f : Nat → Nat} {n : Nat} (P : PermF f n) : ∀ {hs : List Nat}, hs.Pairwise (· < ·) → (∀ p ∈ hs, p < n ∧ lead f n p = true) → ((hs.map (ring f n)).flatten).Nodup
  | [], _, _ => by simp
  | p :: hs, h, hl => by
    obtain ⟨h1, h2⟩ := List.pairwise_cons.mp h
    obtain ⟨hp, lp⟩ := hl p List.mem_cons_self
    show (ring f n p ++ (hs.map (ring f n)).flatten).Nodup
    rw [List.nodup_append]
    refine ⟨ring_nodup P hp, flatten_nodup P h2 fun q hq => hl q (List.mem_cons_of_mem _ hq), fun a ha b hb e => ?_⟩
    subst e
    obtain ⟨r, hr, har⟩ := List.mem_flatten.mp hb
    obtain ⟨q, hq, rfl⟩ := List.mem_map.mp hr
    obtain ⟨hqn, lq⟩ := hl q (List.mem_cons_of_mem _ hq)
    have := h1 q hq
    have := lead_unique P hp hqn lp lq ha har
    omega
theorem rings_nodup {f : Nat → Nat} {n : Nat} (P : PermF f n) : (rings f n).flatten.Nodup :=
  flatten_nodup P (heads_sorted f n n) fun p hp => by obtain ⟨a, b, _⟩ := mem_heads.mp hp; exact ⟨a, b⟩
theorem rings_lt {f : Nat → Nat} {n : Nat} (P : PermF f n) {x : Nat} (h : x ∈ (rings f n).flatten) : x < n := by
  obtain ⟨r, hr, hx⟩ := List.mem_flatten.mp h
  obtain ⟨q, hq, rfl⟩ := List.mem_map.mp hr
  exact ring_lt P (mem_heads.mp hq).1 hx
theorem rings_all {f : Nat → Nat} {n : Nat} (P : PermF f n) {x : Nat} (hx : x < n) (hm : f x ≠ x) : x ∈ (rings f n).flatten := by
  obtain ⟨q, hq, lq, h1, h2⟩ := leader_of P hx
  have hqn : q < n := by omega
  refine List.mem_flatten.mpr ⟨ring f n q, List.mem_map.mpr ⟨q, mem_heads.mpr ⟨hqn, lq, fun e => ?_⟩, rfl⟩, h1⟩
  have o := (per_one P hqn).mpr e
  have l : ring f n q = [q] := by unfold ring; rw [o]; rfl
  rw [l] at h1
  rw [List.mem_singleton.mp h1] at hm
  exact hm e
theorem rings_ne {f : Nat → Nat} {n : Nat} (P : PermF f n) {r : List Nat} (h : r ∈ rings f n) : r ≠ [] := by
  obtain ⟨q, hq, rfl⟩ := List.mem_map.mp h
  intro e
  have := self_ring P (mem_heads.mp hq).1
  rw [e] at this
  cases this
theorem rings_follow {f : Nat → Nat} {n : Nat} (P : PermF f n) {r : List Nat} (h : r ∈ rings f n) : Follows f r := by
  obtain ⟨q, hq, rfl⟩ := List.mem_map.mp h
  exact follows_ring P (mem_heads.mp hq).1
theorem graph_append (f : Nat → Nat) (a b : List Nat) : graph f (a ++ b) = graph f a ++ graph f b := List.map_append
theorem graph_fst (f : Nat → Nat) (a : List Nat) : (graph f a).map Prod.fst = a := by
  unfold graph
  rw [List.map_map]
  show a.map (fun x => x) = a
  exact List.map_id' a
/-! ### a list as a map of its places -/
def ap (im : List Nat) (x : Nat) : Nat := im.getD x 0
structure IsPerm (im : List Nat) : Prop where
  nd : im.Nodup
  lt : ∀ x ∈ im, x < im.length
theorem ap_get {im : List Nat} {x : Nat} (h : x < im.length) : im[x]? = some (ap im x) := by
  unfold ap
  rw [List.getD_eq_getElem?_getD, List.getElem?_eq_getElem h]
  rfl
theorem ap_mem {im : List Nat} {x : Nat} (h : x < im.length) : ap im x ∈ im := List.mem_of_getElem? (ap_get h)
theorem IsPerm.perm {im : List Nat} (h : IsPerm im) : PermF (ap im) im.length where
  lt x hx := h.lt _ (ap_mem hx)
  inj x y hx hy e := by
    have a := ap_get hx
    have b := ap_get hy
    rw [e] at a
    obtain ⟨h1, e1⟩ := List.getElem?_eq_some_iff.mp a
    obtain ⟨h2, e2⟩ := List.getElem?_eq_some_iff.mp b
    exact (List.getElem_inj h.nd).mp (e1.trans e2.symm)
theorem im_eq (im : List Nat) : (List.range im.length).map (ap im) = im := by
  apply List.ext_getElem?
  intro i
  rw [List.getElem?_map]
  by_cases c : i < im.length
  · rw [List.getElem?_range c, ap_get c]; rfl
  · rw [List.getElem?_eq_none (by rw [List.length_range]; omega), List.getElem?_eq_none (by omega)]; rfl
end TW

namespace TW
/-! ### drawing -/
theorem isPerm_of {n : Nat} {im : List Nat} (h : im.Perm (List.range n)) : IsPerm im ∧ im.length = n := by
  have hl : im.length = n := by rw [h.length_eq, List.length_range]
  refine ⟨⟨h.nodup_iff.mpr List.nodup_range, fun x hx => ?_⟩, hl⟩
  rw [hl]
  exact List.mem_range.mp (h.mem_iff.mp hx)
theorem cons_erase_perm : ∀ {l : List Nat} {k x : Nat}, l[k]? = some x → (x :: l.eraseIdx k).Perm l
  | [], k, x, h => by simp at h
  | a :: l, 0, x, h => by
    have e : a = x := Option.some.inj h
    rw [e]
    exact List.Perm.refl _
  | a :: l, k + 1, x, h => by
    have ih := cons_erase_perm (l := l) (k := k) (x := x) h
    exact (List.Perm.swap a x (l.eraseIdx k)).trans (List.Perm.cons a ih)
theorem draw_step {n k x : Nat} {im rest : List Nat} (h : (im ++ rest).Perm (List.range n)) (hx : rest[k]? = some x) : ((im ++ [x]) ++ rest.eraseIdx k).Perm (List.range n) := by
  obtain ⟨hk, e⟩ := List.getElem?_eq_some_iff.mp hx
  refine List.Perm.trans ?_ h
  rw [List.append_assoc]
  refine List.Perm.append_left im ?_
  exact cons_erase_perm hx
theorem erase_map {α β : Type} (f : α → β) : ∀ (l : List α) (k : Nat), (l.map f).eraseIdx k = (l.eraseIdx k).map f
  | [], k => by simp
  | a :: l, 0 => rfl
  | a :: l, k + 1 => congrArg (List.cons (f a)) (erase_map f l k)
theorem erase_len {k x : Nat} {rest : List Nat} (hx : rest[k]? = some x) : (rest.eraseIdx k).length + 1 = rest.length := by
  obtain ⟨hk, _⟩ := List.getElem?_eq_some_iff.mp hx
  rw [List.length_eraseIdx_of_lt hk]
  omega
end TW

namespace TW
/-! ### a ring as it grows -/
def pref (f : Nat → Nat) (p k : Nat) : List Nat := (List.range k).map fun j => it f j p
theorem pref_succ (f : Nat → Nat) (p k : Nat) : pref f p (k + 1) = pref f p k ++ [it f k p] := by
  unfold pref
  rw [List.range_succ, List.map_append]
  rfl
theorem pref_len (f : Nat → Nat) (p k : Nat) : (pref f p k).length = k := by unfold pref; rw [List.length_map, List.length_range]
theorem ring_pref (f : Nat → Nat) (n p : Nat) : ring f n p = pref f p (per f n p) := rfl
section
variable {f : Nat → Nat} {n : Nat} (P : PermF f n) {p : Nat} (hp : p < n)
include P hp
theorem back_iff {j : Nat} (hj : j < per f n p) : it f (j + 1) p = p ↔ j + 1 = per f n p := by
  obtain ⟨h0, e, _, hl⟩ := per_spec P hp
  constructor
  · intro h
    rcases Nat.lt_or_ge (j + 1) (per f n p) with c | c
    · exact absurd h (hl (j + 1) (by omega) c)
    · omega
  · intro h; rw [h]; exact e
/-- who is met so far -/
theorem seen_lead {s : List Nat} (hs : ∀ x, x ∈ s ↔ ∃ q, q < p ∧ x ∈ ring f n q) : p ∈ s ↔ lead f n p = false := by
  rw [hs, not_lead_iff P hp]
  constructor
  · rintro ⟨q, hq, hm⟩
    have hqn : q < n := by omega
    obtain ⟨r, hr, lr, h1, h2⟩ := leader_of P hp
    have h3 := ring_symm P hqn hm
    have := (lead_iff f n r).mp lr q (ring_trans P (by omega) h1 h3)
    exact ⟨r, by omega, lr, h1⟩
  · rintro ⟨q, hq, _, hm⟩
    exact ⟨q, hq, hm⟩
theorem seen_skip {s : List Nat} (hs : ∀ x, x ∈ s ↔ ∃ q, q < p ∧ x ∈ ring f n q) (hm : p ∈ s) (x : Nat) : x ∈ s ↔ ∃ q, q < p + 1 ∧ x ∈ ring f n q := by
  constructor
  · intro h
    obtain ⟨q, hq, h2⟩ := (hs x).mp h
    exact ⟨q, by omega, h2⟩
  · rintro ⟨q, hq, h2⟩
    by_cases c : q = p
    · subst c
      obtain ⟨r, hr, h3⟩ := (hs q).mp hm
      exact (hs x).mpr ⟨r, hr, ring_trans P (by omega) h3 h2⟩
    · exact (hs x).mpr ⟨q, by omega, h2⟩
end
theorem seen_more {f : Nat → Nat} {n p : Nat} {s : List Nat} (hs : ∀ x, x ∈ s ↔ ∃ q, q < p ∧ x ∈ ring f n q) (x : Nat) : x ∈ s ++ ring f n p ↔ ∃ q, q < p + 1 ∧ x ∈ ring f n q := by
  rw [List.mem_append]
  constructor
  · rintro (h | h)
    · obtain ⟨q, hq, h2⟩ := (hs x).mp h
      exact ⟨q, by omega, h2⟩
    · exact ⟨p, by omega, h⟩
  · rintro ⟨q, hq, h2⟩
    by_cases c : q = p
    · subst c; exact .inr h2
    · exact .inl ((hs x).mpr ⟨q, by omega, h2⟩)
theorem ringsTo_skip {f : Nat → Nat} {n i : Nat} (h : lead f n i = false) : ringsTo f n (i + 1) = ringsTo f n i := by
  rw [ringsTo_succ, if_neg (by rw [h]; simp), List.append_nil]
theorem ringsTo_stay {f : Nat → Nat} {n i : Nat} (h : f i = i) : ringsTo f n (i + 1) = ringsTo f n i := by
  rw [ringsTo_succ, if_neg (fun c => c.2 h), List.append_nil]
theorem ringsTo_more {f : Nat → Nat} {n i : Nat} (h : lead f n i = true) (h2 : f i ≠ i) : ringsTo f n (i + 1) = ringsTo f n i ++ [ring f n i] := by
  rw [ringsTo_succ, if_pos ⟨h, h2⟩]
theorem heads_len (f : Nat → Nat) (n i : Nat) : (heads f n i).length ≤ i := by
  unfold heads
  exact Nat.le_trans (List.length_filter_le _ _) (by rw [List.length_range]; exact Nat.le_refl _)
theorem ringsTo_len (f : Nat → Nat) (n i : Nat) : (ringsTo f n i).length ≤ i := by
  unfold ringsTo
  rw [List.length_map]
  exact heads_len f n i
end TW

namespace TW
/-! ### the pairs of rings in a row -/
def pairs (rs : List (List Nat)) : List (Nat × Nat) := (rs.map nxt).flatten
theorem nxt_fst (r : List Nat) : (nxt r).map Prod.fst = r := by
  unfold nxt
  exact List.map_fst_zip (by rw [rot_len]; exact Nat.le_refl _)
theorem nxt_len (r : List Nat) : (nxt r).length = r.length := by
  have := congrArg List.length (nxt_fst r)
  rw [List.length_map] at this
  exact this
theorem pairs_fst (rs : List (List Nat)) : (pairs rs).map Prod.fst = rs.flatten := by
  unfold pairs
  induction rs with
  | nil => rfl
  | cons r rs ih =>
    show ((nxt r) ++ (rs.map nxt).flatten).map Prod.fst = r ++ rs.flatten
    rw [List.map_append, nxt_fst, ih]
theorem pairs_snoc {rs : List (List Nat)} {i : Nat} {r : List Nat} (h : rs[i]? = some r) : pairs (rs.take (i + 1)) = pairs (rs.take i) ++ nxt r := by
  unfold pairs
  rw [List.take_add_one, h, List.map_append, List.flatten_append]
  show _ ++ [nxt r].flatten = _
  rw [List.flatten_singleton]
theorem pairs_take_len (rs : List (List Nat)) (i : Nat) : (pairs (rs.take i)).length ≤ rs.flatten.length := by
  have e := congrArg List.length (pairs_fst (rs.take i))
  rw [List.length_map] at e
  rw [e]
  have h : rs.flatten = (rs.take i).flatten ++ (rs.drop i).flatten := by rw [← List.flatten_append, List.take_append_drop]
  rw [h, List.length_append]
  omega
/-- the j-th place of the i-th ring is not among those before -/
theorem not_before {rs : List (List Nat)} (hnd : rs.flatten.Nodup) {i j x : Nat} {r : List Nat} (h : rs[i]? = some r) (hx : r[j]? = some x) : x ∉ (pairs (rs.take i) ++ (nxt r).take j).map Prod.fst := by
  rw [List.map_append, pairs_fst, List.map_take, nxt_fst]
  obtain ⟨hi, ei⟩ := List.getElem?_eq_some_iff.mp h
  obtain ⟨hj, ej⟩ := List.getElem?_eq_some_iff.mp hx
  have e1 : rs = rs.take i ++ r :: rs.drop (i + 1) := by
    rw [← ei, List.getElem_cons_drop, List.take_append_drop]
  have e2 : r = r.take j ++ x :: r.drop (j + 1) := by
    rw [← ej, List.getElem_cons_drop, List.take_append_drop]
  rw [e1, List.flatten_append, List.flatten_cons] at hnd
  obtain ⟨_, h2, h3⟩ := List.nodup_append.mp hnd
  intro hm
  rcases List.mem_append.mp hm with q | q
  · exact h3 x q x (List.mem_append_left _ (List.mem_of_getElem? hx)) rfl
  · have h4 := (List.nodup_append.mp h2).1
    rw [e2] at h4
    have h5 := (List.nodup_append.mp h4).2.2
    exact h5 x q x List.mem_cons_self rfl
theorem nxt_get {r : List Nat} {j x y : Nat} (hx : r[j]? = some x) (hy : (rot r)[j]? = some y) : (nxt r)[j]? = some (x, y) := by
  unfold nxt
  rw [List.getElem?_zip_eq_some]
  exact ⟨hx, hy⟩
theorem take_snoc {α : Type} {l : List α} {j : Nat} {x : α} (h : l[j]? = some x) : l.take (j + 1) = l.take j ++ [x] := by
  rw [List.take_add_one, h]
  rfl
theorem pairs_follow {f : Nat → Nat} : ∀ {rs : List (List Nat)}, (∀ r ∈ rs, Follows f r) → pairs rs = graph f rs.flatten
  | [], _ => rfl
  | r :: rs, h => by
    show nxt r ++ pairs rs = graph f (r ++ rs.flatten)
    rw [graph_append, pairs_follow fun q hq => h q (List.mem_cons_of_mem _ hq), h r List.mem_cons_self]
end TW

namespace TW
/-! ### sorted keys -/
theorem perm_nat {ys : List Int} {ks : List Nat} (h : ys.Perm (ks.map fun (k : Nat) => (k : Int))) (hs : ys.Pairwise (· ≤ ·)) (hn : ks.Nodup) :
    ∃ zs : List Nat, ys = zs.map (fun (k : Nat) => (k : Int)) ∧ zs.Perm ks ∧ zs.Pairwise (· < ·) := by
  have hnn : ∀ y ∈ ys, 0 ≤ y := fun y hy => by
    obtain ⟨k, _, rfl⟩ := List.mem_map.mp (h.mem_iff.mp hy)
    omega
  have e : ys = (ys.map Int.toNat).map (fun (k : Nat) => (k : Int)) := by
    rw [List.map_map]
    have : ∀ l : List Int, (∀ y ∈ l, 0 ≤ y) → l = l.map ((fun (k : Nat) => (k : Int)) ∘ Int.toNat) := by
      intro l
      induction l with
      | nil => intro _; rfl
      | cons a l ih =>
        intro hl
        have h1 := hl a List.mem_cons_self
        have h2 := ih fun y hy => hl y (List.mem_cons_of_mem _ hy)
        rw [List.map_cons, ← h2]
        congr 1
        show a = ((a.toNat : Nat) : Int)
        omega
    exact this ys hnn
  have hp : (ys.map Int.toNat).Perm ks := by
    have := h.map Int.toNat
    rw [List.map_map] at this
    have e2 : ks.map (Int.toNat ∘ fun (k : Nat) => (k : Int)) = ks := by
      rw [show (Int.toNat ∘ fun (k : Nat) => (k : Int)) = id from funext fun k => by show ((k : Int)).toNat = k; omega]
      exact List.map_id ks
    rw [e2] at this
    exact this
  refine ⟨ys.map Int.toNat, e, hp, ?_⟩
  have nd : (ys.map Int.toNat).Nodup := hp.nodup_iff.mpr hn
  rw [List.nodup_iff_pairwise_ne] at nd
  have hle : (ys.map Int.toNat).Pairwise (· ≤ ·) := by
    rw [List.pairwise_map]
    exact hs.imp fun h => Int.toNat_le_toNat h
  exact (hle.and nd).imp fun ⟨a, b⟩ => Nat.lt_of_le_of_ne a b
/-- a head's own test -/
def headB (f : Nat → Nat) (n p : Nat) : Bool := lead f n p && decide (f p ≠ p)
theorem headB_iff {f : Nat → Nat} {n p : Nat} : headB f n p = true ↔ lead f n p = true ∧ f p ≠ p := by
  unfold headB
  rw [Bool.and_eq_true, decide_eq_true_eq]
def ringsIn (f : Nat → Nat) (n : Nat) (zs : List Nat) : List (List Nat) := (zs.filter (headB f n)).map (ring f n)
theorem ringsIn_more {f : Nat → Nat} {n : Nat} {zs : List Nat} {i y : Nat} (h : zs[i]? = some y) (hb : headB f n y = true) : ringsIn f n (zs.take (i + 1)) = ringsIn f n (zs.take i) ++ [ring f n y] := by
  unfold ringsIn
  rw [take_snoc h, List.filter_append, List.map_append, List.filter_cons_of_pos hb]
  rfl
theorem ringsIn_stay {f : Nat → Nat} {n : Nat} {zs : List Nat} {i y : Nat} (h : zs[i]? = some y) (hb : headB f n y = false) : ringsIn f n (zs.take (i + 1)) = ringsIn f n (zs.take i) := by
  unfold ringsIn
  rw [take_snoc h, List.filter_append, List.filter_cons_of_neg (by rw [hb]; simp), List.filter_nil, List.append_nil]
theorem ringsIn_len (f : Nat → Nat) (n : Nat) (zs : List Nat) : (ringsIn f n zs).length ≤ zs.length := by
  unfold ringsIn
  rw [List.length_map]
  exact List.length_filter_le _ _
theorem ringsIn_all {f : Nat → Nat} {n : Nat} {zs : List Nat} (hs : zs.Pairwise (· < ·)) (hlt : ∀ y ∈ zs, y < n) (hall : ∀ x, x < n → f x ≠ x → x ∈ zs) : ringsIn f n zs = rings f n := by
  unfold ringsIn rings ringsTo
  exact congrArg (List.map (ring f n)) (heads_of hs hlt hall)
/-- who is marked when the places zs.take i have been looked at -/
def Marked (f : Nat → Nat) (n : Nat) (zs : List Nat) (x : Nat) : Prop := ∃ q ∈ zs, headB f n q = true ∧ x ∈ ring f n q ∧ x ≠ q
section
variable {f : Nat → Nat} {n : Nat} (P : PermF f n) {zs : List Nat} (hs : zs.Pairwise (· < ·)) (hlt : ∀ y ∈ zs, y < n) (hall : ∀ x, x < n → f x ≠ x → x ∈ zs) {i y : Nat} (hy : zs[i]? = some y)
include P hs hlt hall hy
theorem mem_take_of_lt {q : Nat} (hq : q ∈ zs) (hl : q < y) : q ∈ zs.take i := by
  obtain ⟨hi, ey⟩ := List.getElem?_eq_some_iff.mp hy
  obtain ⟨j, hj, e⟩ := List.mem_iff_getElem.mp hq
  rw [List.mem_take_iff_getElem]
  have hji : j < i := by
    rcases Nat.lt_trichotomy j i with c | c | c
    · exact c
    · subst c; rw [e] at ey; omega
    · have := (List.pairwise_iff_getElem.mp hs) i j hi hj c
      rw [ey, e] at this
      omega
  exact ⟨j, by omega, e⟩
theorem lt_of_mem_take {q : Nat} (hq : q ∈ zs.take i) : q < y := by
  obtain ⟨hi, ey⟩ := List.getElem?_eq_some_iff.mp hy
  obtain ⟨j, hj, e⟩ := List.mem_take_iff_getElem.mp hq
  have hj' : j < i := by omega
  have := (List.pairwise_iff_getElem.mp hs) j i (by omega) hi hj'
  rw [ey, e] at this
  exact this
/-- marked just if no leader -/
theorem marked_iff : Marked f n (zs.take i) y ↔ lead f n y = false := by
  have hyn : y < n := hlt y (List.mem_of_getElem? hy)
  constructor
  · rintro ⟨q, hq, hb, hm, hne⟩
    have hqn : q < n := hlt q (List.mem_of_mem_take hq)
    exact (not_lead_iff P hyn).mpr ⟨q, lt_of_mem_take P hs hlt hall hy hq, (headB_iff.mp hb).1, hm⟩
  · intro h
    obtain ⟨q, hq, lq, hm⟩ := (not_lead_iff P hyn).mp h
    have hqn : q < n := by omega
    have hfq : f q ≠ q := fun e => by
      have o := (per_one P hqn).mpr e
      have l : ring f n q = [q] := by unfold ring; rw [o]; rfl
      rw [l] at hm
      have := List.mem_singleton.mp hm
      omega
    exact ⟨q, mem_take_of_lt P hs hlt hall hy (hall q hqn hfq) hq, headB_iff.mpr ⟨lq, hfq⟩, hm, by omega⟩
end
theorem marked_stay {f : Nat → Nat} {n : Nat} {zs : List Nat} {i y : Nat} (hy : zs[i]? = some y) (hb : headB f n y = false) (x : Nat) : Marked f n (zs.take (i + 1)) x ↔ Marked f n (zs.take i) x := by
  unfold Marked
  rw [take_snoc hy]
  constructor
  · rintro ⟨q, hq, h1, h2⟩
    rcases List.mem_append.mp hq with h | h
    · exact ⟨q, h, h1, h2⟩
    · rw [List.mem_singleton.mp h, hb] at h1; cases h1
  · rintro ⟨q, hq, h⟩
    exact ⟨q, List.mem_append_left _ hq, h⟩
theorem marked_more {f : Nat → Nat} {n : Nat} {zs : List Nat} {i y : Nat} (hy : zs[i]? = some y) (hb : headB f n y = true) (x : Nat) : Marked f n (zs.take (i + 1)) x ↔ Marked f n (zs.take i) x ∨ (x ∈ ring f n y ∧ x ≠ y) := by
  unfold Marked
  rw [take_snoc hy]
  constructor
  · rintro ⟨q, hq, h1, h2⟩
    rcases List.mem_append.mp hq with h | h
    · exact .inl ⟨q, h, h1, h2⟩
    · rw [List.mem_singleton.mp h] at h2; exact .inr h2
  · rintro (⟨q, hq, h⟩ | h)
    · exact ⟨q, List.mem_append_left _ hq, h⟩
    · exact ⟨y, List.mem_append_right _ List.mem_cons_self, hb, h⟩
/-- the ring but its first place -/
theorem ring_tail {f : Nat → Nat} {n : Nat} (P : PermF f n) {p x : Nat} (hp : p < n) : (x ∈ ring f n p ∧ x ≠ p) ↔ ∃ k, 1 ≤ k ∧ k < per f n p ∧ x = it f k p := by
  constructor
  · rintro ⟨h, hne⟩
    obtain ⟨k, hk, e⟩ := List.mem_map.mp h
    have hk' := List.mem_range.mp hk
    have e : it f k p = x := e
    refine ⟨k, ?_, hk', e.symm⟩
    rcases Nat.eq_zero_or_pos k with c | c
    · subst c; exact absurd e.symm hne
    · exact c
  · rintro ⟨k, k1, k2, rfl⟩
    exact ⟨(mem_ring P hp).mpr ⟨k, rfl⟩, (per_spec P hp).2.2.2 k k1 k2⟩
end TW

namespace TW
/-! ### a list's own map -/
theorem isPerm_of_graph {n : Nat} {f : Nat → Nat} (P : PermF f n) : IsPerm ((List.range n).map f) := by
  refine ⟨?_, ?_⟩
  · rw [List.nodup_iff_pairwise_ne, List.pairwise_map]
    refine List.Pairwise.imp_of_mem ?_ (List.pairwise_lt_range (n := n))
    intro a b ha hb hab e
    have := P.inj a b (List.mem_range.mp ha) (List.mem_range.mp hb) e
    omega
  · intro x hx
    rw [List.length_map, List.length_range]
    obtain ⟨k, hk, rfl⟩ := List.mem_map.mp hx
    exact P.lt _ (List.mem_range.mp hk)
theorem rings_stay {f : Nat → Nat} {n : Nat} (P : PermF f n) {x : Nat} (hx : x < n) (h : x ∉ (rings f n).flatten) : f x = x := by
  by_cases c : f x = x
  · exact c
  · exact absurd (rings_all P hx c) h
theorem sum_le : ∀ {rs : List (List Nat)}, (rs.map List.length).sum = rs.flatten.length
  | [] => rfl
  | r :: rs => by rw [List.map_cons, List.sum_cons, List.flatten_cons, List.length_append, sum_le (rs := rs)]
theorem rings_total {f : Nat → Nat} {n : Nat} (P : PermF f n) : (rings f n).flatten.length ≤ n := nodup_le n _ (rings_nodup P) fun _ h => rings_lt P h
/-- the least common multiple of the lengths -/
def lcmTo (rs : List (List Nat)) : Nat := rs.foldl (fun l r => Nat.lcm l r.length) 1
theorem lcmTo_snoc {rs : List (List Nat)} {i : Nat} {r : List Nat} (h : rs[i]? = some r) : lcmTo (rs.take (i + 1)) = Nat.lcm (lcmTo (rs.take i)) r.length := by
  unfold lcmTo
  rw [take_snoc h, List.foldl_append]
  rfl
theorem lcm_le {a b : Nat} : Nat.lcm a b ≤ a * b := Nat.div_le_self _ _
theorem lcm_fold_le : ∀ (rs : List (List Nat)) (a : Nat), rs.foldl (fun l r => Nat.lcm l r.length) a ≤ a * 2 ^ (rs.map List.length).sum
  | [], a => by simp
  | r :: rs, a => by
    show rs.foldl _ (Nat.lcm a r.length) ≤ _
    refine Nat.le_trans (lcm_fold_le rs _) ?_
    rw [List.map_cons, List.sum_cons, Nat.pow_add, ← Nat.mul_assoc]
    exact Nat.mul_le_mul_right _ (Nat.le_trans lcm_le (Nat.mul_le_mul_left a (Nat.le_of_lt Nat.lt_two_pow_self)))
theorem lcmTo_lt {f : Nat → Nat} {n : Nat} (P : PermF f n) (hn : n ≤ 60) (i : Nat) : lcmTo ((rings f n).take i) < 2 ^ 64 := by
  refine Nat.lt_of_le_of_lt (lcm_fold_le _ 1) ?_
  have h1 : (((rings f n).take i).map List.length).sum ≤ n := by
    rw [sum_le]
    have h : (rings f n).flatten = ((rings f n).take i).flatten ++ ((rings f n).drop i).flatten := by rw [← List.flatten_append, List.take_append_drop]
    have := rings_total P
    rw [h, List.length_append] at this
    omega
  rw [Nat.one_mul]
  exact Nat.lt_of_le_of_lt (Nat.pow_le_pow_right (by decide) (Nat.le_trans h1 hn)) (by decide)
theorem lcmTo_pos {rs : List (List Nat)} (h : ∀ r ∈ rs, r ≠ []) : 0 < lcmTo rs := by
  unfold lcmTo
  have : ∀ (rs : List (List Nat)) (a : Nat), 0 < a → (∀ r ∈ rs, r ≠ []) → 0 < rs.foldl (fun l r => Nat.lcm l r.length) a := by
    intro rs
    induction rs with
    | nil => intro a ha _; exact ha
    | cons r rs ih =>
      intro a ha hr
      refine ih _ (Nat.lcm_pos ha ?_) fun q hq => hr q (List.mem_cons_of_mem _ hq)
      exact List.length_pos_iff.mpr (hr r List.mem_cons_self)
  exact this rs 1 (by decide) h
end TW

namespace TW
/-! ### swapping -/
theorem map_set (g : Nat → Nat) (n a v : Nat) : ((List.range n).map g).set a v = (List.range n).map fun x => if x = a then v else g x := by
  apply List.ext_getElem?
  intro i
  rw [List.getElem?_set, List.getElem?_map, List.getElem?_map, List.length_map, List.length_range]
  by_cases hi : i < n
  · rw [List.getElem?_range hi]
    by_cases c : a = i
    · subst c
      rw [if_pos rfl, if_pos hi]
      simp
    · rw [if_neg c]
      simp [Ne.symm c]
  · rw [List.getElem?_eq_none (show (List.range n).length ≤ i by rw [List.length_range]; omega)]
    by_cases c : a = i
    · rw [if_pos c, if_neg (by omega)]; rfl
    · rw [if_neg c]; rfl
/-- g swaps places; it stays where the drawn places from 2 i on are -/
structure Swp (mx : List Nat) (n i : Nat) (g : Nat → Nat) : Prop where
  lt : ∀ x, x < n → g x < n
  inv : ∀ x, x < n → g (g x) = x
  rest : ∀ x ∈ mx.drop (2 * i), g x = x
def swp (g : Nat → Nat) (a b : Nat) : Nat → Nat := fun x => if x = b then a else if x = a then b else g x
theorem Swp.start {mx : List Nat} {n : Nat} : Swp mx n 0 id := ⟨fun _ h => h, fun _ _ => rfl, fun _ _ => rfl⟩
theorem Swp.more {mx : List Nat} {n i a b : Nat} {g : Nat → Nat} (S : Swp mx n i g) (hm : IsPerm mx) (hl : mx.length = n) (ha : mx[2 * i]? = some a) (hb : mx[2 * i + 1]? = some b) : Swp mx n (i + 1) (swp g a b) := by
  obtain ⟨h1, e1⟩ := List.getElem?_eq_some_iff.mp ha
  obtain ⟨h2, e2⟩ := List.getElem?_eq_some_iff.mp hb
  have han : a < n := by rw [← hl]; exact hm.lt a (List.mem_of_getElem? ha)
  have hbn : b < n := by rw [← hl]; exact hm.lt b (List.mem_of_getElem? hb)
  have hab : a ≠ b := fun e => by
    rw [← e1, ← e2] at e
    have := (List.getElem_inj hm.nd).mp e
    omega
  have mem : ∀ j x, mx[j]? = some x → 2 * i ≤ j → x ∈ mx.drop (2 * i) := fun j x hx hj => by
    refine List.mem_of_getElem? (i := j - 2 * i) ?_
    rw [List.getElem?_drop, show 2 * i + (j - 2 * i) = j by omega]
    exact hx
  have ga : g a = a := S.rest a (mem _ _ ha (by omega))
  have gb : g b = b := S.rest b (mem _ _ hb (by omega))
  have gne : ∀ x, x < n → x ≠ a → x ≠ b → g x ≠ a ∧ g x ≠ b := fun x hx hxa hxb =>
    ⟨fun e => hxa (by have := S.inv x hx; rw [e, ga] at this; exact this.symm), fun e => hxb (by have := S.inv x hx; rw [e, gb] at this; exact this.symm)⟩
  refine ⟨fun x hx => ?_, fun x hx => ?_, fun x hx => ?_⟩
  · unfold swp
    split
    · exact han
    · split
      · exact hbn
      · exact S.lt x hx
  · unfold swp
    by_cases c1 : x = b
    · subst c1
      rw [if_pos rfl, if_neg hab, if_pos rfl]
    · rw [if_neg c1]
      by_cases c2 : x = a
      · subst c2
        rw [if_pos rfl, if_pos rfl]
      · obtain ⟨n1, n2⟩ := gne x hx c2 c1
        rw [if_neg c2, if_neg n2, if_neg n1]
        exact S.inv x hx
  · obtain ⟨j, hj⟩ := List.mem_iff_getElem?.mp hx
    rw [List.getElem?_drop] at hj
    have hx' : mx[2 * (i + 1) + j]? = some x := hj
    obtain ⟨h3, e3⟩ := List.getElem?_eq_some_iff.mp hx'
    have n1 : x ≠ a := fun e => by
      rw [← e3, ← e1] at e
      have := (List.getElem_inj hm.nd).mp e
      omega
    have n2 : x ≠ b := fun e => by
      rw [← e3, ← e2] at e
      have := (List.getElem_inj hm.nd).mp e
      omega
    unfold swp
    rw [if_neg n2, if_neg n1]
    exact S.rest x (mem _ _ hx' (by omega))
theorem Swp.perm {mx : List Nat} {n i : Nat} {g : Nat → Nat} (S : Swp mx n i g) : PermF g n := ⟨S.lt, fun x y hx hy e => by rw [← S.inv x hx, ← S.inv y hy, e]⟩
theorem swp_list (g : Nat → Nat) (n a b : Nat) : (((List.range n).map g).set a b).set b a = (List.range n).map (swp g a b) := by
  rw [map_set, map_set]
  rfl
/-- all places are led back -/
def swB (im : List Nat) : Bool := (List.range im.length).all fun p => decide (ap im (ap im p) = p)
def mvB (im : List Nat) : Bool := (List.range im.length).all fun p => decide (ap im p ≠ p)
/-! ### the least multiple -/
theorem lcm_of_le {a b k : Nat} (ha : 0 < a) (h : b ∣ k * a) (hk : 0 < k) (hmin : ∀ j, 0 < j → j < k → ¬ b ∣ j * a) : k * a = Nat.lcm a b := by
  have h1 : Nat.lcm a b ∣ k * a := Nat.lcm_dvd (Nat.dvd_mul_left a k) h
  obtain ⟨c, hc⟩ := Nat.dvd_lcm_left a b
  have hb : 0 < b := by
    rcases Nat.eq_zero_or_pos b with z | z
    · subst z
      have := Nat.eq_zero_of_zero_dvd h
      have := Nat.mul_pos hk ha
      omega
    · exact z
  have hl : 0 < Nat.lcm a b := Nat.lcm_pos ha hb
  have hcpos : 0 < c := by
    rcases Nat.eq_zero_or_pos c with z | z
    · rw [z, Nat.mul_zero] at hc; omega
    · exact z
  have hck : c ≤ k := by
    have := Nat.le_of_dvd (Nat.mul_pos hk ha) h1
    rw [hc, Nat.mul_comm a c] at this
    exact Nat.le_of_mul_le_mul_right this ha
  rcases Nat.lt_or_ge c k with z | z
  · exfalso
    refine hmin c hcpos z ?_
    rw [Nat.mul_comm, ← hc]
    exact Nat.dvd_lcm_right a b
  · have : k = c := by omega
    rw [this, Nat.mul_comm, ← hc]
end TW

namespace TW
/-! ### powers, of either sign -/
/-- g is f's way back below n -/
structure BackF (f g : Nat → Nat) (n : Nat) : Prop where
  lt : ∀ y, y < n → g y < n
  eq : ∀ y, y < n → f (g y) = y
def zit (f g : Nat → Nat) (k : Int) (x : Nat) : Nat := if 0 ≤ k then it f k.toNat x else it g k.natAbs x
theorem BackF.it_lt {f g : Nat → Nat} {n : Nat} (B : BackF f g n) (k : Nat) {x : Nat} (h : x < n) : it g k x < n := by
  induction k with
  | zero => exact h
  | succ k ih => exact B.lt _ ih
theorem BackF.it_eq {f g : Nat → Nat} {n : Nat} (B : BackF f g n) : ∀ (k : Nat) {x : Nat}, x < n → it f k (it g k x) = x
  | 0, x, _ => rfl
  | k + 1, x, h => by
    rw [it_succ' f]
    show it f k (f (g (it g k x))) = x
    rw [B.eq _ (B.it_lt k h)]
    exact B.it_eq k h
theorem zit_lt {f g : Nat → Nat} {n : Nat} (P : PermF f n) (B : BackF f g n) (k : Int) {x : Nat} (h : x < n) : zit f g k x < n := by
  unfold zit
  by_cases c : 0 ≤ k
  · rw [if_pos c]; exact P.it_lt _ h
  · rw [if_neg c]; exact B.it_lt _ h
theorem zit_perm {f g : Nat → Nat} {n : Nat} (P : PermF f n) (B : BackF f g n) (k : Int) : PermF (zit f g k) n where
  lt x h := zit_lt P B k h
  inj x y hx hy e := by
    unfold zit at e
    by_cases c : 0 ≤ k
    · rw [if_pos c, if_pos c] at e
      exact P.it_inj _ hx hy e
    · rw [if_neg c, if_neg c] at e
      have := congrArg (it f k.natAbs) e
      rw [B.it_eq _ hx, B.it_eq _ hy] at this
      exact this
theorem it_fix {f : Nat → Nat} {x : Nat} (h : f x = x) : ∀ k, it f k x = x
  | 0 => rfl
  | k + 1 => by show f (it f k x) = x; rw [it_fix h k, h]
theorem zit_fix {f g : Nat → Nat} {n : Nat} (P : PermF f n) (B : BackF f g n) (k : Int) {x : Nat} (hx : x < n) (h : f x = x) : zit f g k x = x := by
  unfold zit
  by_cases c : 0 ≤ k
  · rw [if_pos c, it_fix h]
  · rw [if_neg c]
    refine it_fix (P.inj _ _ (B.lt _ hx) hx ?_) _
    rw [B.eq _ hx, h]
/-- a place's way along its ring -/
theorem ring_shift {f g : Nat → Nat} {n p : Nat} (P : PermF f n) (B : BackF f g n) (hp : p < n) (k : Int) (a : Nat) : it f (((a : Int) + k) % (per f n p : Nat)).toNat p = zit f g k (it f a p) := by
  have L0 : 0 < per f n p := (per_spec P hp).1
  have nn := Int.emod_nonneg ((a : Int) + k) (show ((per f n p : Nat) : Int) ≠ 0 by omega)
  unfold zit
  by_cases c : 0 ≤ k
  · rw [if_pos c, ← it_add]
    rw [per_mod P hp (k.toNat + a)]
    congr 1
    have e : (a : Int) + k = ((k.toNat + a : Nat) : Int) := by omega
    rw [e, ← Int.natCast_emod, Int.toNat_natCast]
  · rw [if_neg c]
    refine P.it_inj k.natAbs (P.it_lt _ hp) (B.it_lt _ (P.it_lt _ hp)) ?_
    rw [B.it_eq _ (P.it_lt _ hp), ← it_add, per_mod P hp, per_mod P hp a]
    congr 1
    have e1 : ((k.natAbs + (((a : Int) + k) % (per f n p : Nat)).toNat : Nat) : Int) = k.natAbs + ((a : Int) + k) % (per f n p : Nat) := by omega
    have e2 : (((k.natAbs + (((a : Int) + k) % (per f n p : Nat)).toNat) % per f n p : Nat) : Int) = ((a % per f n p : Nat) : Int) := by
      rw [Int.natCast_emod, e1, Int.natCast_emod, Int.add_emod_emod]
      congr 1
      omega
    exact Int.ofNat.inj e2
/-! ### the list of the way back -/
def backL (im : List Nat) : List Nat := (List.range im.length).map fun y => im.idxOf y
theorem perm_mem {im : List Nat} (h : IsPerm im) {y : Nat} (hy : y < im.length) : y ∈ im := by
  apply Classical.byContradiction
  intro hn
  have : (y :: im).Nodup := List.nodup_cons.mpr ⟨hn, h.nd⟩
  have := nodup_le im.length (y :: im) this (fun x hx => by
    rcases List.mem_cons.mp hx with e | e
    · rw [e]; exact hy
    · exact h.lt _ e)
  rw [List.length_cons] at this
  omega
theorem ap_map {n : Nat} {f : Nat → Nat} {x : Nat} (h : x < n) : ap ((List.range n).map f) x = f x := by
  unfold ap
  rw [List.getD_eq_getElem?_getD, List.getElem?_map, List.getElem?_range h]
  rfl
theorem back_back {im : List Nat} (h : IsPerm im) : BackF (ap im) (ap (backL im)) im.length where
  lt y hy := by
    unfold backL
    rw [ap_map hy]
    exact List.idxOf_lt_length_of_mem (perm_mem h hy)
  eq y hy := by
    unfold backL
    rw [ap_map hy]
    have hl := List.idxOf_lt_length_of_mem (perm_mem h hy)
    have := ap_get hl
    rw [List.getElem?_eq_getElem hl, List.getElem_idxOf] at this
    exact (Option.some.inj this).symm
theorem backL_len (im : List Nat) : (backL im).length = im.length := by unfold backL; rw [List.length_map, List.length_range]
theorem back_unique {f g h : Nat → Nat} {n : Nat} (P : PermF f n) (B : BackF f g n) (hl : ∀ y, y < n → h y < n) (he : ∀ y, y < n → f (h y) = y) {y : Nat} (hy : y < n) : h y = g y :=
  P.inj _ _ (hl y hy) (B.lt y hy) (by rw [he y hy, B.eq y hy])
/-- one behind the other -/
def behind (im jm : List Nat) : List Nat := im.map (ap jm)
theorem behind_len (im jm : List Nat) : (behind im jm).length = im.length := List.length_map _
theorem behind_eq (im jm : List Nat) : behind im jm = (List.range im.length).map fun x => ap jm (ap im x) := by
  have e := im_eq im
  unfold behind
  conv => lhs; rw [← e]
  rw [List.map_map]
  rfl
theorem behind_perm {im jm : List Nat} (h : IsPerm im) (j : IsPerm jm) (e : jm.length = im.length) : IsPerm (behind im jm) := by
  rw [behind_eq]
  refine isPerm_of_graph ⟨fun x hx => ?_, fun x y hx hy z => ?_⟩
  · have := j.perm.lt _ (show ap im x < jm.length by rw [e]; exact h.perm.lt x hx)
    rw [e] at this
    exact this
  · exact h.perm.inj _ _ hx hy (j.perm.inj _ _ (by rw [e]; exact h.perm.lt x hx) (by rw [e]; exact h.perm.lt y hy) z)
/-- the power of a map -/
def timesL (im : List Nat) (k : Int) : List Nat := (List.range im.length).map (zit (ap im) (ap (backL im)) k)
theorem timesL_len (im : List Nat) (k : Int) : (timesL im k).length = im.length := by unfold timesL; rw [List.length_map, List.length_range]
theorem timesL_perm {im : List Nat} (h : IsPerm im) (k : Int) : IsPerm (timesL im k) := isPerm_of_graph (zit_perm h.perm (back_back h) k)
theorem timesL_zero (im : List Nat) : timesL im 0 = List.range im.length := by
  unfold timesL zit
  apply List.ext_getElem?
  intro i
  rw [List.getElem?_map]
  by_cases c : i < im.length
  · rw [List.getElem?_range c]; rfl
  · rw [List.getElem?_eq_none (by rw [List.length_range]; omega)]; rfl
theorem timesL_one (im : List Nat) : timesL im 1 = im := by
  have e := im_eq im
  conv => rhs; rw [← e]
  rfl
theorem timesL_back {im : List Nat} (h : IsPerm im) : timesL im (-1) = backL im := by
  have e := im_eq (backL im)
  rw [backL_len] at e
  conv => rhs; rw [← e]
  rfl
end TW

namespace TW
open PySem PySem.Spec PyProof.Rows L2
/-! ### dict(enumerate(list)) -/
/-- the places from k on, to the values -/
def enumKV : Nat → List V → List (Key × V)
  | _, [] => []
  | k, x :: xs => (Sum.inl (k : Int), x) :: enumKV (k + 1) xs
theorem enumKV_get : ∀ (xs : List V) (k i : Nat), (enumKV k xs)[i]? = (xs[i]?).map fun x => (Sum.inl ((k + i : Nat) : Int), x)
  | [], k, i => by simp [enumKV]
  | x :: xs, k, 0 => by simp [enumKV]
  | x :: xs, k, i + 1 => by
    show (enumKV (k + 1) xs)[i]? = _
    rw [enumKV_get xs (k + 1) i, show k + 1 + i = k + (i + 1) by omega]
    rfl
def enumKW : Nat → List Value → List (Key × Value)
  | _, [] => []
  | k, x :: xs => (Sum.inl (k : Int), x) :: enumKW (k + 1) xs
theorem enumKW_len : ∀ (xs : List Value) (k : Nat), (enumKW k xs).length = xs.length
  | [], _ => rfl
  | _ :: xs, k => congrArg Nat.succ (enumKW_len xs (k + 1))
theorem enumKW_get : ∀ (xs : List Value) (k i : Nat), (enumKW k xs)[i]? = (xs[i]?).map fun x => (Sum.inl ((k + i : Nat) : Int), x)
  | [], k, i => by simp [enumKW]
  | x :: xs, k, 0 => by simp [enumKW]
  | x :: xs, k, i + 1 => by
    show (enumKW (k + 1) xs)[i]? = _
    rw [enumKW_get xs (k + 1) i, show k + 1 + i = k + (i + 1) by omega]
    rfl
theorem enumK_rel : ∀ {xs : List V} {us : List Value} (k : Nat), Vals xs us → KV (enumKV k xs) (enumKW k us)
  | _, _, _, .nil => .nil
  | _, _, k, .cons r t => .cons ⟨rfl, r⟩ (enumK_rel (k + 1) t)
section
variable {X : Cx}
def tDictEnum (K : PySem.W.Frag) (ta : TE) : TE := fun σ H Q => ta σ H fun x H1 => ∃ a xs, x = .ref a ∧ SqL K H1 a xs ∧ ∀ p, H1 p = none → Q (.ref p) (upd H1 p (.dK (mergeK [] (enumKV 0 xs))))
theorem pe_dictEnum {e : Expr} {ta : TE} {p p2 pos pos2 : Pos} (hc : X.calm = true) (hg : Gl X "dict") (hm : X.mg "dict" = none) (hg2 : Gl X "enumerate") (hm2 : X.mg "enumerate" = none) (ha : PE X e ta)
    (n1 : starEach [.Call (.Name "enumerate" p2) [e] [] pos2] X.env = (false, eval (.Call (.Name "enumerate" p2) [e] [] pos2) X.env) :: starEach [] X.env := by rfl)
    (n2 : starEach [e] X.env = (false, eval e X.env) :: starEach [] X.env := by rfl) :
    PE X (.Call (.Name "dict" p) [.Call (.Name "enumerate" p2) [e] [] pos2] [] pos) (tDictEnum X.K ta) := by
  refine ⟨fun pins s σ H Q I h => ?_⟩
  refine Call_ (ld_blt I hg hm boot_dict (PyProof.Rows.callWith_type1 (args_cons ?_ n1) n1))
  refine Call_ (ld_blt I hg2 hm2 boot_enumerate (PyProof.Rows.callWith_type1 (one_arg ha I h (fun v s1 x H1 I1 r1 q1 => ?_) n2) n2))
  obtain ⟨a, xs, ex, hq, q⟩ := q1
  subst ex
  cases r1
  obtain ⟨its, rv, pl, hz⟩ := I1.list hq
  have hal : a < s1.heap.objs.size := by obtain ⟨_, q, _⟩ := pl.isList; exact Heap.lt_size q
  refine call_enumerate_list pl.isList fun h' he hit hsz hk => args_nil ?_
  have P := PySem.PairArg.enumerate (prog := X.prog) (w := X.w) (s1.heap.objs.size + 1) s1.heap.objs.size a (Nat.succ_ne_self _) (Nat.ne_of_lt (Nat.lt_succ_of_lt hal)) (Nat.ne_of_lt hal) its.toArray
  have I2 : Inv X pins σ H1 { s1 with heap := h' } := I1.kept (t' := s1.toks) hk
  refine PySem.call_dict_pairs (s := { s1 with heap := h' }) (knd := mixKind X.prog X.w) (kvs := enumKW 0 its) P (I.ok.hd hc) ⟨⟨_, he⟩, hit, pl.isList.at fun o q => hk _ o q⟩ ⟨?_, ?_⟩ ?_ ?_
  · rw [enumKW_len]; simp
  · rintro i key v ⟨⟨t, rfl⟩, hv⟩
    refine ⟨Sum.inl (i : Int), ?_, mixKind_int X.prog X.w _ _⟩
    rw [enumKW_get]
    have : its[i]? = some v := by simpa using hv
    rw [this, Nat.zero_add]
    rfl
  · simpa [← rv.length] using hz
  · intro h2 tk hd hk2
    have hbig : (h'.objs.size == sysModules) = false := beq_eq_false_iff_ne.mpr (Nat.ne_of_gt I2.big)
    have hlen : (mergeK [] (enumKV 0 xs)).length ≤ sizeLine := by
      refine Nat.le_trans (length_mergeK _ []) ?_
      rw [List.length_nil, Nat.zero_add, (enumK_rel 0 rv).length, enumKW_len, ← rv.length]
      exact hz
    have keep : ∀ b u, s1.heap.get? b = some u → h2.get? b = some u := fun b u e => by
      refine hk2 b u (fun hb => ?_) (hk b u e)
      have hbl := Heap.lt_size e
      have : b = s1.heap.objs.size + 1 ∨ b = s1.heap.objs.size := by simpa using hb
      rcases this with e' | e'
      · rw [e'] at hbl; exact absurd hbl (Nat.not_lt.mpr (Nat.le_succ _))
      · rw [e'] at hbl; exact absurd hbl (Nat.lt_irrefl _)
    have dk : ObjOk X.prog X.w (upd H1 h'.objs.size (.dK (mergeK [] (enumKV 0 xs)))) h2 h'.objs.size (.dK (mergeK [] (enumKV 0 xs))) :=
      ⟨hlen, hbig, merged [] (enumKW 0 its), KV.merge (enumK_rel 0 rv) .nil, hd⟩
    refine ⟨.ref h'.objs.size, _, I1.laid (t' := tk) keep (by omega) dk, rfl, q _ (I2.hok.fresh (Nat.le_refl _))⟩
end
end TW

namespace TW
open PySem PySem.Spec PyProof.Rows L2
section
variable {X : Cx}
/-- lcm(a, b) -/
def rLcm : List V → Hp → VK → Prop := fun vs H Q => ∃ a b : Nat, vs = [.int (a : Int), .int (b : Int)] ∧ a < 2 ^ 64 ∧ b < 2 ^ 64 ∧ Q (.int ((Nat.lcm a b : Nat) : Int)) H
theorem cr_lcm : CallR X (.builtin "math.lcm") rLcm := by
  intro pins s σ H vs us Q I r h
  obtain ⟨a, b, rfl, ha, hb, q⟩ := h
  obtain ⟨t, u, rfl⟩ := Vals.int2 r
  have e : (((Nat.lcm 1 (a : Int).natAbs).lcm (b : Int).natAbs : Nat) : Int) = ((Nat.lcm a b : Nat) : Int) := by
    rw [Int.natAbs_natCast, Int.natAbs_natCast, Nat.lcm_one_left]
  refine PySem.W.mg_lcm_v (by rw [Int.natAbs_natCast]; exact ha) (by rw [Int.natAbs_natCast]; exact hb) e ?_ ⟨.int _, H, I.tok _, ⟨_, rfl⟩, q⟩
  rw [Int.natAbs_natCast]
  have h1 : Nat.lcm a b < 2 ^ 128 := by
    refine Nat.lt_of_le_of_lt (Nat.div_le_self _ _) ?_
    calc a * b ≤ a * 2 ^ 64 := Nat.mul_le_mul_left _ (Nat.le_of_lt hb)
      _ < 2 ^ 64 * 2 ^ 64 := by omega
      _ = 2 ^ 128 := by decide
  rw [bitsLine_eq]
  by_cases z : Nat.lcm a b = 0
  · rw [z]; decide
  · exact Nat.lt_trans ((Nat.log2_lt z).mpr h1) (by decide)
end
/-! ### defs, methods, classes with their promises -/
section
variable (P : Program) (w : World) (K : PySem.W.Frag) (mg : Str → Option Value) (base : Heap)
/-- the def that the module's name x holds keeps sp; dvs: the defaults that fill up -/
def DefOk (CX : CXT) (k : Nat) (x : Str) (ps : List Str) (dvs : List V) (sp : Sp) : Prop :=
  ∃ (f : Addr) (fd : FuncData) (ds : List Value), mg x = some (.ref f) ∧ PySem.W.keepIn K (.ref f) = true ∧ Binds K fd ps ds ∧ Vals dvs ds ∧ FnOk P w K mg base CX k f fd ps sp
/-- the method m of the class at C -/
def MethOk (CX : CXT) (k : Nat) (C : Addr) (m : Str) (ps : List Str) (dvs : List V) (sp : Sp) : Prop :=
  ∃ (f : Addr) (fd : FuncData) (ds : List Value), Meth K C m f ∧ Binds K fd ps ds ∧ Vals dvs ds ∧ FnOk P w K mg base CX k f fd ps sp
/-- the class at C, by the module's name x, its __init__ -/
def MakeOk (CX : CXT) (k : Nat) (C : Addr) (x : Str) (ps : List Str) (dvs : List V) (sp : Sp) : Prop :=
  mg x = some (.ref C) ∧ ∃ (f : Addr) (fd : FuncData) (ds : List Value), Mk K C f ∧ Binds K fd ps ds ∧ Vals dvs ds ∧ FnOk P w K mg base CX k f fd ps sp
end
section
variable {X : Cx} {CX : CXT} {k k' : Nat} {ps : List Str} {sp : Sp} {dvs : List V} {E : XK} {x m : Str} {p pos apos : Pos} {e o : Expr} {es : List Expr} {ta : TE} {t : TA} {C : Addr}
theorem pe_d (D : DefOk X.prog X.w X.K X.mg X.base CX k x ps dvs sp) (hr : Room k' X.A) (hx : Passes CX X E) (ha : PA X (e :: es) t) (hk : k ≤ k' := by decide) (hg : Gl X x := by rfl) (hdb : (x == ("__debug__" : Str)) = false := by decide)
    (he : starEach (e :: es) X.env = (false, eval e X.env) :: starEach es X.env := by rfl) (hpl : (backTo pos (starEach es X.env)).any (·.1) = false := by rfl) :
    PE X (.Call (.Name x p) (e :: es) [] pos) (tCall sp dvs E t) := by
  obtain ⟨f, fd, ds, hm, kp, hb, hd, F⟩ := D
  exact pe_call F (hr.mono hk) hg hm kp hb hd hx ha hdb he hpl
theorem pe_m {pl : Sem Bool} (D : MethOk X.prog X.w X.K X.mg X.base CX k C m ps dvs sp) (c : Cls X.K C) (hr : Room k' X.A) (hx : Passes CX X E) (he : PE X o ta) (ha : PA X (e :: es) t) (hk : k ≤ k' := by decide)
    (hst : starEach (e :: es) X.env = (false, eval e X.env) :: starEach es X.env := by rfl) (hpl : (backTo pos (starEach es X.env)).any (·.1) = false := by rfl)
    (ht : eval (.Call (.Attribute o m apos) (e :: es) [] pos) X.env = (do
      let ov ← eval o X.env
      standAt apos.atName
      let (f, first) ← holding [ov] (getMethod ov m pl)
      callWith pos f first (backTo pos (starEach (e :: es) X.env)) (backToKw pos (keywordEach [] X.env))) := by rfl) :
    PE X (.Call (.Attribute o m apos) (e :: es) [] pos) (tMeth C m sp dvs E ta t) := by
  obtain ⟨f, fd, ds, hm, hb, hd, F⟩ := D
  exact pe_meth he c hm F (hr.mono hk) hb hd hx ha hst hpl ht
theorem pe_m0 {pl : Sem Bool} (D : MethOk X.prog X.w X.K X.mg X.base CX k C m ps dvs sp) (c : Cls X.K C) (hr : Room k' X.A) (hx : Passes CX X E) (he : PE X o ta) (hk : k ≤ k' := by decide)
    (ht : eval (.Call (.Attribute o m apos) [] [] pos) X.env = (do
      let ov ← eval o X.env
      standAt apos.atName
      let (f, first) ← holding [ov] (getMethod ov m pl)
      callWith pos f first (backTo pos (starEach [] X.env)) (backToKw pos (keywordEach [] X.env))) := by rfl) :
    PE X (.Call (.Attribute o m apos) [] [] pos) (tMeth C m sp dvs E ta tNil) := by
  obtain ⟨f, fd, ds, hm, hb, hd, F⟩ := D
  exact pe_meth0 he c hm F (hr.mono hk) hb hd hx ht
theorem pe_mk' (D : MakeOk X.prog X.w X.K X.mg X.base CX k C x ps dvs sp) (hr : Room k' X.A) (hx : Passes CX X E) (ha : PA X (e :: es) t) (hk : k + 1 ≤ k' := by decide) (hg : Gl X x := by rfl) (hdb : (x == ("__debug__" : Str)) = false := by decide)
    (he : starEach (e :: es) X.env = (false, eval e X.env) :: starEach es X.env := by rfl) (hpl : (backTo pos (starEach es X.env)).any (·.1) = false := by rfl) :
    PE X (.Call (.Name x p) (e :: es) [] pos) (tMake C sp dvs E t) := by
  obtain ⟨hm, f, fd, ds, M, hb, hd, F⟩ := D
  exact pe_make M F (hr.mono hk) hg hm hb hd hx ha hdb he hpl
end
end TW

namespace TW
open PySem PySem.Spec PyProof.Rows L2
/-! ### errors with one attribute, held as values -/
section
variable (P : Program) (w : World) (K : PySem.W.Frag) (mg : Str → Option Value) (base : Heap)
/-- what __init__ of such a class does: the attribute f is the second value -/
def spErr (C : Addr) (f : Str) : Sp := fun vs H Q _ => ∃ (a : Addr) (v : V), vs = [.ref a, v] ∧ H a = some (exo a C none) ∧ ∀ d, H d = none → d ≠ a → Q .non (upd (upd H d (exd d [(f, v)])) a (exo a C (some d)))
structure ErrC (C : Addr) : Prop where
  oex : OexC K C
  xf : XfC K C
  kc : ExcC K C
/-- the error class at C, by the module's name x; its attribute f -/
def ErrOk (CX : CXT) (k : Nat) (C : Addr) (x f p : Str) : Prop :=
  ErrC K C ∧ mg x = some (.ref C) ∧ ∃ (fI : Addr) (fd : FuncData), PySem.W.findIn K (.ref C) "__init__" = some (some (.ref fI)) ∧ PySem.W.typeIn K (.ref fI) = some (.type "function") ∧ Binds K fd ["self", p] [] ∧
    FnOk P w K mg base CX k fI fd ["self", p] (spErr C f)
end
section
variable {X : Cx} {CX : CXT} {k k' : Nat} {C : Addr} {x f q : Str} {e : Expr} {te : TE} {p pos : Pos}
def tErr (C : Addr) (f : Str) (te : TE) : TE := fun σ H Q => te σ H fun v H1 => ∀ (a d : Addr) (H' : Hp), Same H1 H' → H1 a = none → H1 d = none → H' a = some (exo a C (some d)) → H' d = some (exd d [(f, v)]) → Q (.ref a) H'
theorem pe_err (D : ErrOk X.prog X.w X.K X.mg X.base CX k C x f q) (hr : Room k' X.A) (hx : Passes CX X (fun _ _ _ => False)) (he : PE X e te) (hk : k + 1 ≤ k' := by decide) (hg : Gl X x := by rfl)
    (hdb : (x == ("__debug__" : Str)) = false := by decide) (hs : starEach [e] X.env = (false, eval e X.env) :: starEach [] X.env := by rfl) (hpl : (backTo pos (starEach [] X.env)).any (·.1) = false := by rfl) :
    PE X (.Call (.Name x p) [e] [] pos) (tErr C f te) := by
  obtain ⟨T, hm, fI, fd, iC, tI, hb, F1⟩ := D
  refine ⟨fun pins s σ H Q I h => ?_⟩
  obtain ⟨nm, q, N, bs, bm, sn, sub, ab, col, dd, k0, k1, k2, k3, k5, hC, hbm⟩ := T.oex.cls
  have hr1 := hr.mono hk
  refine wpAny_Call_Name_kw (ld_glob I hg hm ?_ hdb)
  refine PySem.W.callWith_K (h₀ := X.base) I.ok.mod.kin T.oex.kC ?_ hs hpl
  rw [hs]
  show wpAny _ _ (spliced ((false, eval e X.env) :: backTo pos (starEach [] X.env))) _ _ s
  refine Calls.spliced_cons (thn (he.run pins s σ H _ I h) fun u s1 ⟨v, H1, I1, r1, q1⟩ => ?_)
  refine Calls.spliced_nil ⟨I1.kIn, ?_⟩
  show wpAny _ _ (call (.ref C) [u]) _ _ _
  obtain ⟨hp, g, dr, tk, os⟩ := s1
  have hsz : hp.objs.size ≤ hp.objs.size + 1 := Nat.le_succ _
  have hn : H1 (hp.objs.size + 1) = none := I1.hok.fresh hsz
  have kk : ∀ b o, hp.get? b = some o → ((hp.push (PySem.W.kdv_tup [u])).push (PySem.HandSPX.excO C hp.objs.size)).get? b = some o := fun b o e => Heap.get?_push_of_some _ (Heap.get?_push_of_some _ e)
  have hget : ((hp.push (PySem.W.kdv_tup [u])).push (PySem.HandSPX.excO C hp.objs.size)).get? (hp.objs.size + 1) = some (PySem.HandSPX.excO C hp.objs.size) := by heap_get
  have I2 : Inv X pins σ (upd H1 (hp.objs.size + 1) (exo (hp.objs.size + 1) C none)) ⟨(hp.push (PySem.W.kdv_tup [u])).push (PySem.HandSPX.excO C hp.objs.size), g, dr, tk, os⟩ :=
    I1.laid (t' := tk) (a := hp.objs.size + 1) (o := exo (hp.objs.size + 1) C none) (h' := (hp.push (PySem.W.kdv_tup [u])).push (PySem.HandSPX.excO C hp.objs.size)) kk hsz (exo_ok hget)
  have r2 : Vals [V.ref (hp.objs.size + 1), v] [Value.ref (hp.objs.size + 1), u] := .cons rfl (.cons r1 .nil)
  have hus : [u].length ≤ sizeLine := by
    rw [sizeLine_eq]
    exact (by decide : 1 ≤ 16777216)
  have hsp : spErr C f [V.ref (hp.objs.size + 1), v] (upd H1 (hp.objs.size + 1) (exo (hp.objs.size + 1) C none))
      (fun v' H2 => v' = .non ∧ Q (.ref (hp.objs.size + 1)) H2) (fun _ _ _ => False) := by
    refine ⟨_, v, rfl, upd_same, fun d nd dne => ⟨rfl, ?_⟩⟩
    have nd1 : H1 d = none := by rw [upd_ne dne] at nd; exact nd
    refine q1 _ d _ ?_ hn nd1 upd_same (by rw [upd_ne dne, upd_same])
    intro b o hb
    rw [upd_ne (ne_of_none hb hn), upd_ne (ne_of_none hb nd1), upd_ne (ne_of_none hb hn)]
    exact hb
  refine wpAny_call (PySem.HandSPX.call_own F.excBase_ValueError (fun Y => PySem.HandSPX.refsVE_contains Y bm hbm) (I1.kIn _ _ hC) (PySem.W.looks_findIn I1.kIn iC) (fun self => PySem.W.bind_fn I1.kIn self tI) hus
    (codeAny_mono (F1.run _ X.stack _ _ ⟨[Value.ref (hp.objs.size + 1), u], []⟩ [Value.ref (hp.objs.size + 1), u] _ _ (fun _ _ _ => False) (hr1.make C [u] []) (I2.env0.make C [u] []) (by have z := hb _ [Value.ref (hp.objs.size + 1), u] I2.kIn rfl; exact z) r2 hsp) fun r s' hq' => ?_))
  cases r with
  | error er => exact hx pins σ _ _ er s' I2 hq'
  | ok fl =>
    cases fl with
    | ret u' =>
      obtain ⟨v', H2, os2, bare2, un2, hok2, rv, ev, q2⟩ := hq'
      subst ev
      obtain ⟨h2, g2, d2, t2, os'⟩ := s'
      exact ⟨rv, .ref (hp.objs.size + 1), H2, I2.call' (ch := []) os2 un2 hok2 bare2 (fun b z => absurd z (by simp)), rfl, q2⟩
    | next => exact False.elim hq'
    | brk => exact False.elim hq'
    | cont => exact False.elim hq'
/-! ### the class without own __init__, called with nothing -/
theorem pe_err0 {bmB : List Value} {B newId initId : String} (F : ExcBaseFacts B newId initId bmB) (qq : PySem.W.excIn X.K C bmB newId = true) (gC : X.mg x = some (.ref C)) (kC : PySem.W.keepIn X.K (.ref C) = true) (hg : Gl X x := by rfl)
    (hdb : (x == ("__debug__" : Str)) = false := by decide) :
    PE X (.Call (.Name x p) [] [] pos) (fun σ H Q => ∀ a, H a = none → Q (.ref a) (upd H a (exo a C none))) := by
  refine ⟨fun pins s σ H Q I h => ?_⟩
  refine wpAny_Call_Name_kw (ld_glob I hg gC ?_ hdb)
  refine PySem.W.callWith_K0 I.kIn kC ?_
  show wpAny _ _ (call (.ref C) []) _ _ _
  obtain ⟨bm, N, nm, qn, bs, hdct, sn, sub, ab, col, dd, k0, k1, k2, k3, k5, mN, hC, hN, hni, T⟩ := exc_obj I.kIn qq
  refine wpAny_call_exc_subT F T hC hN hni (fun h' a hm => ?_) (by show 0 ≤ sizeLine; exact Nat.zero_le _)
  have hn : H a = none := I.hok.gone hm.new
  obtain ⟨t, ht, _, _⟩ := hm.there
  exact ⟨.ref a, upd H a (exo a C none), I.laidN hm.keeps hm.new hn (exo_ok ht), rfl, h a hn⟩
/-! ### e.f -/
def tEf (K : PySem.W.Frag) (f : Str) (te : TE) : TE := fun σ H Q => te σ H fun x H1 => ∃ (a C d : Addr) (fs : List (Str × V)) (v : V), x = .ref a ∧ XfC K C ∧ PySem.W.findIn K (.ref C) f = some none ∧ H1 a = some (exo a C (some d)) ∧ H1 d = some (exd d fs) ∧ fs.lookup f = some v ∧ Q v H1
theorem pe_ef (he : PE X e te) (hb : attributeBase e f X.env (eval e X.env) = eval e X.env := by rfl) : PE X (.Attribute e f pos) (tEf X.K f te) := by
  refine ⟨fun pins s σ H Q I h => ?_⟩
  refine attr_of hb (thn (he.run pins s σ H _ I h) fun u s1 hh => ?_)
  obtain ⟨x, H1, I1, rx, a, C, d, fs, v, ex, T, hno, ea, ed, l, q⟩ := hh
  subst ex
  obtain rfl : u = Value.ref a := rx
  obtain ⟨t1, ho⟩ := exo_at I1.hok ea
  obtain ⟨mA, hns, hr⟩ := exd_at I1.hok ed
  obtain ⟨od, hod, hl⟩ := lookIn_ns hns
  obtain ⟨u, hu, ru⟩ := RelO.some_of (v := v) (o := mA f) (by rw [← l]; exact hr f)
  have J : PySem.W.InstAt s1.heap a { cls := .ref C, dict := some d, data := .fields #[.ref t1, .none, .none, .none, .bool false, .none] } C (some od) := ⟨ho, rfl, rfl, hod⟩
  exact HandSPX.exc_get I1.kIn J T.ga T.gg T.exC (PySem.W.findObj_own T.hdC hno rfl (by rw [hl, hu])) (handed_of ru) ⟨v, H1, I1.tok _, ru, q⟩
/-! ### isinstance -/
def rIsX (K : PySem.W.Frag) : List V → Hp → VK → Prop := fun xs H Q => ∃ (a C : Addr) (d : Option Addr) (c : V) (cv : Value) (b : Bool), xs = [.ref a, c] ∧ ExcC K C ∧ H a = some (exo a C d) ∧ (∀ dx, d = some dx → ∃ fs, H dx = some (exd dx fs)) ∧
  (∀ u, RelV c u → u = cv) ∧ PySem.W.kitOne K (.ref C) cv = some b ∧ Q (.bl b) H
theorem call_isX : CallR X (.builtin "isinstance") (rIsX X.K) := by
  intro pins s σ H xs us Q I r h
  obtain ⟨a, C, d, c, cv, b, rfl, T, ea, ed, hcv, e, q⟩ := h
  cases r with
  | cons rx rr =>
    cases rr with
    | cons rt rr =>
      cases rr
      cases rx
      have ec := hcv _ rt
      subst ec
      obtain ⟨t1, ho⟩ := exo_at I.hok ea
      have J : ∃ od, PySem.W.InstAt s.heap a { cls := .ref C, dict := d, data := .fields #[.ref t1, .none, .none, .none, .bool false, .none] } C od := by
        cases d with
        | none => exact ⟨none, ho, rfl, rfl, trivial⟩
        | some dx =>
          obtain ⟨fs, hd⟩ := ed dx rfl
          obtain ⟨mA, hns, _⟩ := exd_at I.hok hd
          obtain ⟨od, hod, _⟩ := lookIn_ns hns
          exact ⟨some od, ho, rfl, rfl, hod⟩
      obtain ⟨od, J⟩ := J
      have hcl : (PySem.W.clsIn X.K C).isSome = true := by
        obtain ⟨cd, hc, _⟩ := PySem.W.any_some T.hd
        rw [hc]; rfl
      exact PySem.W.kia_one (PySem.W.kitx_exc hcl T.hg T.hk T.hs T.ha T.hn T.ht T.hm) I.kIn J e (fun z => nomatch z) fun tk => ⟨.bl b, H, I.kept (t' := tk) fun _ _ z => z, rfl, q⟩
end
end TW

namespace TW
open PySem PySem.Spec PyProof.Rows L2
/-! ### operators of an own class -/
section
variable {M : Model} {h : Heap} {K : PySem.W.Frag} {C : Addr} {nm : String}
/-- neither the class nor object has the in-place method -/
theorem looks_noI {cd : ClassData} {add : Bool} (X : K.In h) (hc : PySem.W.clsIn K C = some cd) (hm : cd.mro = [.ref C, .type "object"]) (h1 : PySem.W.findIn K (.ref C) (dunderI nm) = some none) (h2 : PySem.W.findIn K (.type "object") (dunderI nm) = some none) :
    PySem.W.Looks M h (fillsInplaceSlot (.ref C) nm add) false := by
  intro A Q E s k q
  have Lm : PySem.W.Looks M h (mroOf (.ref C)) cd.mro := (PySem.W.looks_clsIn X hc).andThen (f := fun cd => pure cd.mro) .now
  have X' : K.In s.heap := X.keeps k
  unfold fillsInplaceSlot
  refine wpAny_bind (Lm A _ E s k ?_)
  rw [hm, List.anyM_cons]
  refine wpAny_bind (wpAny_bind (PySem.W.looks_findIn X h1 A _ E s k ?_))
  refine wpAny_pure ?_
  rw [List.anyM_cons]
  refine wpAny_bind (wpAny_bind (PySem.W.looks_findIn X h2 A _ E s k ?_))
  refine wpAny_pure ?_
  exact wpAny_pure q
end
section
variable {X : Cx} {CX : CXT} {k k' : Nat} {C : Addr} {m : Str} {ps : List Str} {sp : Sp} {E : XK}
/-- the class as the operators ask of it -/
structure OpC (K : PySem.W.Frag) (C : Addr) : Prop where
  sf : PySem.W.selfFirst K C = true
/-- x op y, both of the class -/
def rOwn (C : Addr) (sp : Sp) (E : XK) : R2 := fun x y H Q => ∃ (a b d1 d2 : Addr) (f1 f2 : List (Str × V)), x = .ref a ∧ y = .ref b ∧ H a = some (.ins C d1 f1) ∧ H b = some (.ins C d2 f2) ∧ sp [.ref a, .ref b] H (fun v H' => (∃ r, v = .ref r) ∧ Q v H') E
theorem back_ref {pins : List (Addr × Obj)} {σ : L2.St} {Q : VK} {u : Value} {s : Shared} (h : EP X pins σ (fun v H' => (∃ r, v = .ref r) ∧ Q v H') u s) : PySem.W.CmpBack (EP X pins σ Q) u s := by
  obtain ⟨v, H, I, r, ⟨p, rfl⟩, q⟩ := h
  cases r
  exact ⟨.ref p, H, I, rfl, q⟩
theorem op_own {op : Operator} (D : MethOk X.prog X.w X.K X.mg X.base CX k C m ps [] sp) (c : OpC X.K C) (hr : Room k' X.A) (hx : Passes CX X E) (hk : k ≤ k' := by decide) (hm : m = PySem.dunder op.info.2 := by rfl) : OpR X (binaryOp op) (rOwn C sp E) := by
  obtain ⟨f, fd, ds, hM, hb, hd, F⟩ := D
  intro pins s σ H x y v u Q I rx ry h
  obtain ⟨a, b, d1, d2, f1, f2, rfl, rfl, ea, eb, q⟩ := h
  cases rx
  cases ry
  obtain ⟨mA, oA, _, _, _, _⟩ := ins_get I.hok ea
  obtain ⟨mB, oB, _, _, _, _⟩ := ins_get I.hok eb
  obtain ⟨odA, IA, _⟩ := oA.look
  obtain ⟨odB, IB, _⟩ := oB.look
  obtain ⟨mf, fr⟩ := I.fr
  subst hm
  refine PySem.W.binop_K fr I.ok.mod.kin IA IB.type c.sf hM.at_ hM.fn ?_
  refine wpAny_mono (run_fn (vs := [.ref a, .ref b]) F (hr.mono hk) hb hd hx I (.cons rfl (.cons rfl .nil)) q) (fun _ _ z => back_ref z) fun _ _ z => z
/-- x op= y where the class has no in-place method -/
theorem op_ownI {op : Operator} {cd : ClassData} (D : MethOk X.prog X.w X.K X.mg X.base CX k C m ps [] sp) (c : OpC X.K C) (hc : PySem.W.clsIn X.K C = some cd) (hmro : cd.mro = [.ref C, .type "object"]) (h1 : PySem.W.findIn X.K (.ref C) (dunderI op.info.2) = some none)
    (h2 : PySem.W.findIn X.K (.type "object") (dunderI op.info.2) = some none) (hr : Room k' X.A) (hx : Passes CX X E) (hk : k ≤ k' := by decide) (hm : m = PySem.dunder op.info.2 := by rfl) : OpR X (inplaceOp op) (rOwn C sp E) := by
  obtain ⟨f, fd, ds, hM, hb, hd, F⟩ := D
  intro pins s σ H x y v u Q I rx ry h
  obtain ⟨a, b, d1, d2, f1, f2, rfl, rfl, ea, eb, q⟩ := h
  cases rx
  cases ry
  obtain ⟨mA, oA, _, _, _, _⟩ := ins_get I.hok ea
  obtain ⟨mB, oB, _, _, _, _⟩ := ins_get I.hok eb
  obtain ⟨odA, IA, _⟩ := oA.look
  obtain ⟨odB, IB, _⟩ := oB.look
  subst hm
  have XK := I.kIn
  have run := run_fn (vs := [.ref a, .ref b]) F (hr.mono hk) hb hd hx I (.cons rfl (.cons rfl .nil)) q
  unfold inplaceOp
  refine wpAny_holding ?_
  refine wpAny_bind (IA.type.here (wpAny_bind ((looks_noI XK hc hmro h1 h2).here ?_)))
  simp only [Bool.false_eq_true, if_false]
  refine wpAny_bind ?_
  unfold binaryOp1
  refine wpAny_bind (IA.type.here (wpAny_bind (IB.type.here (wpAny_bind ((PySem.W.fills_K XK hc (by rw [hmro]) hM.at_).here ?_)))))
  simp only [beq_self_eq_true, if_true]
  refine wpAny_bind (wpAny_pure ?_)
  simp only [Bool.and_false, Bool.false_eq_true, if_false, Bool.false_and]
  refine wpAny_bind (wpAny_pure ?_)
  simp only [Bool.false_eq_true, if_false]
  refine wpAny_bind (m := tryMethod (.ref a) _ (.ref b)) ?_
  unfold tryMethod
  refine wpAny_bind (PySem.W.special_fn XK IA hM.at_ (beq_iff_eq.mp hM.fn) (wpAny_mono run (fun v s' hv => ?_) fun _ _ e => e))
  have hv' := back_ref hv
  cases v <;> first | exact hv'.elim | exact wpAny_pure (wpAny_pure (wpAny_pure hv'))
/-- x op k, k an int -/
def rOwnN (C : Addr) (sp : Sp) (E : XK) : R2 := fun x y H Q => ∃ (a d1 : Addr) (f1 : List (Str × V)) (k : Int), x = .ref a ∧ y = .int k ∧ H a = some (.ins C d1 f1) ∧ sp [.ref a, .int k] H (fun v H' => (∃ r, v = .ref r) ∧ Q v H') E
theorem op_ownN {op : Operator} {fo ro : Option Value} (D : MethOk X.prog X.w X.K X.mg X.base CX k C m ps [] sp) (c : OpC X.K C) (h0 : PySem.W.findIn X.K (.ref C) (dunderR op.info.2) = some none) (h1 : fastLookup "int" (PySem.dunder op.info.2) = some fo)
    (h2 : fastLookup "int" (dunderR op.info.2) = some ro) (hr : Room k' X.A) (hx : Passes CX X E) (hk : k ≤ k' := by decide) (hm : m = PySem.dunder op.info.2 := by rfl) : OpR X (binaryOp op) (rOwnN C sp E) := by
  obtain ⟨f, fd, ds, hM, hb, hd, F⟩ := D
  intro pins s σ H x y v u Q I rx ry h
  obtain ⟨a, d1, f1, z, rfl, rfl, ea, q⟩ := h
  cases rx
  obtain ⟨t, rfl⟩ := ry
  obtain ⟨mA, oA, _, _, _, _⟩ := ins_get I.hok ea
  obtain ⟨odA, IA, _⟩ := oA.look
  obtain ⟨mf, fr⟩ := I.fr
  subst hm
  have hsub : PySem.W.subIn X.K (.type "int") (.ref C) = some false := by
    have e : fastBuiltinMro "int" = some [.type "int", .type "object"] := by decide +kernel
    show (fastBuiltinMro "int").map (·.contains (.ref C)) = _
    rw [e]
    rfl
  refine PySem.W.ksp_binT (T := "int") fr I.ok.mod.kin IA rfl c.sf hM.at_ hM.fn h0 (.inl rfl) (show PySem.W.findIn X.K (.type "int") _ = some fo from h1) (show PySem.W.findIn X.K (.type "int") _ = some ro from h2) hsub ?_
  refine wpAny_mono (run_fn (vs := [.ref a, .int z]) F (hr.mono hk) hb hd hx I (.cons rfl (.cons ⟨t, rfl⟩ .nil)) q) (fun _ _ z => back_ref z) fun _ _ z => z
/-- ~x -/
def rOwnU (C : Addr) (sp : Sp) (E : XK) : V → Hp → VK → Prop := fun x H Q => ∃ (a d1 : Addr) (f1 : List (Str × V)), x = .ref a ∧ H a = some (.ins C d1 f1) ∧ sp [.ref a] H Q E
theorem un_inv (D : MethOk X.prog X.w X.K X.mg X.base CX k C "__invert__" ps [] sp) (hr : Room k' X.A) (hx : Passes CX X E) (hk : k ≤ k' := by decide) : UnR X (unaryOp .Invert) (rOwnU C sp E) := by
  obtain ⟨f, fd, ds, hM, hb, hd, F⟩ := D
  intro pins s σ H x v Q I rx h
  obtain ⟨a, d1, f1, rfl, ea, q⟩ := h
  cases rx
  obtain ⟨mA, oA, _, _, _, _⟩ := ins_get I.hok ea
  obtain ⟨odA, IA, _⟩ := oA.look
  obtain ⟨mf, fr⟩ := I.fr
  refine PySem.W.ksp_inv fr I.ok.mod.kin IA hM.at_ hM.fn ?_
  exact run_fn (vs := [.ref a]) F (hr.mono hk) hb hd hx I (.cons rfl .nil) q
/-- x[i] -/
def rOwnIx (C : Addr) (sp : Sp) (E : XK) : R2 := fun x y H Q => ∃ (a d1 : Addr) (f1 : List (Str × V)) (i : Int), x = .ref a ∧ y = .int i ∧ H a = some (.ins C d1 f1) ∧ sp [.ref a, .int i] H Q E
theorem run_fn1 {f : Addr} {fd : FuncData} {ds : List Value} {dvs : List V} {pins : List (Addr × Obj)} {σ : L2.St} {H : Hp} {s : Shared} {Q : VK} {us : List Value} {vs : List V} (F : FnOk X.prog X.w X.K X.mg X.base CX k f fd ps sp) (hr : Room k X.A.in1) (hb : Binds X.K fd ps ds) (hd : Vals dvs ds)
    (hx : Passes CX X E) (I : Inv X pins σ H s) (r : Vals vs us) (h : sp (vs ++ dvs) H Q E) : wpAny (model X.prog X.w) X.A.in1 (call (.ref f) us) (EP X pins σ Q) X.xe s := by
  have r2 := r.append hd
  have hl : (us ++ ds).length = ps.length := r2.length.symm.trans (F.len _ _ _ _ h)
  refine wpAny_call (codeAny_mono (F.run X.A.in1 X.stack s H ⟨us, []⟩ (us ++ ds) (vs ++ dvs) Q E hr I.env0.in1 (hb s us I.kIn hl) r2 h) fun z s' hq => ?_)
  match z, hq with
  | .error e, hq => exact hx pins σ H s e s' I hq
  | .ok (.ret u), hq => exact I.after hq
theorem pe_ownIx {a b : Expr} {ta tb : TE} {pos : Pos} (D : MethOk X.prog X.w X.K X.mg X.base CX k C "__getitem__" ps [] sp) (hfn : ∀ f, PySem.W.findIn X.K (.ref C) "__getitem__" = some (some (.ref f)) → PySem.W.fnIn X.K f = true) (hr : Room k' X.A) (hx : Passes CX X E) (ha : PE X a ta) (hb : PE X b tb)
    (hk : k + 1 ≤ k' := by decide) (hs : ∀ (x : Addr) (i : Value), subscripted b true (.ref x) i = runValue (.builtin "lifetime.subscript" ⟨[.ref x, i], []⟩) := by intro _ _; with_unfolding_all rfl) : PE X (.Subscript a b pos) (tOp (rOwnIx C sp E) ta tb) := by
  obtain ⟨f, fd, ds, hM, hbi, hd, F⟩ := D
  refine ⟨fun pins s σ H Q I h => ?_⟩
  refine Subscript_ (binT ha hb I h fun v u s2 x y H2 I2 rx ry q => ?_)
  obtain ⟨p, d1, f1, i, rfl, rfl, ea, q⟩ := q
  cases rx
  obtain ⟨t, rfl⟩ := ry
  obtain ⟨mA, oA, _, _, _, _⟩ := ins_get I2.hok ea
  obtain ⟨odA, IA, _⟩ := oA.look
  obtain ⟨mf, fr⟩ := I2.fr
  refine PySem.W.sub_K fr I2.ok.mod.kin IA hM.at_ (hfn f hM.at_) hM.fn ?_ (hs p _)
  exact run_fn1 (vs := [.ref p, .int i]) F (hr.mono hk).in1 hbi hd hx I2 (.cons rfl (.cons ⟨t, rfl⟩ .nil)) q
end
end TW

namespace TW
open PySem PySem.Spec PyProof.Rows L2
/-! ### an error with one attribute, raised -/
section
variable {X : Cx} {CX : CXT} {k k' : Nat} {C : Addr} {x f q : Str} {e : Expr} {te : TE} {p pos : Pos}
theorem upd_del {H : Hp} {a d C : Addr} {f : Str} {v : V} (ha : H a = none) (hd : d ≠ a) :
    upd (del (upd (upd (upd H a (exo a C none)) d (exd d [(f, v)])) a (exo a C (some d))) a) d (.xd [(f, v)]) = upd H d (.xd [(f, v)]) := by
  funext b
  by_cases h1 : b = d
  · rw [h1, upd_same, upd_same]
  · rw [upd_ne h1, upd_ne h1]
    by_cases h2 : b = a
    · rw [h2, del_same, ha]
    · rw [del_ne h2, upd_ne h2, upd_ne h1, upd_ne h2]
def tMkErr (C : Addr) (f : Str) (te : TE) : L2.St → Hp → XK → Prop := fun σ H Q => te σ H fun v H1 => ∀ d : Addr, H1 d = none → Q (.ref C) (some d) (upd H1 d (.xd [(f, v)]))
theorem pmk_err (D : ErrOk X.prog X.w X.K X.mg X.base CX k C x f q) (hr : Room k' X.A) (hx : Passes CX X (fun _ _ _ => False)) (he : PE X e te) (hk : k + 1 ≤ k' := by decide) (hg : Gl X x := by rfl)
    (hdb : (x == ("__debug__" : Str)) = false := by decide) (hs : starEach [e] X.env = (false, eval e X.env) :: starEach [] X.env := by rfl) (hpl : (backTo pos (starEach [] X.env)).any (·.1) = false := by rfl) :
    PMk X (.Call (.Name x p) [e] [] pos) (tMkErr C f te) := by
  obtain ⟨T, hm, fI, fd, iC, tI, hb, F1⟩ := D
  have he2 : PE X e (fun σ H Q => ∃ Q0 : VK, te σ H Q0 ∧ ∀ v H1, Q0 v H1 → Q v H1) := ⟨fun pins s σ H Q I ⟨Q0, h0, hm⟩ =>
    wpAny_mono (he.run pins s σ H Q0 I h0) (fun _ _ ⟨v, H1, I1, r1, q1⟩ => ⟨v, H1, I1, r1, hm v H1 q1⟩) fun _ _ z => z⟩
  have R := pmk_oex (p := p) (pos := pos) T.oex iC tI F1 (hr.mono hk) hb .nil hx hg hm (pa_cons he2 pa_nil hs) hdb hs hpl
  intro pins s σ H Q I h
  refine R pins s σ H Q I ?_
  refine ⟨_, h, fun v H1 q => ⟨by show 1 ≤ 1000; decide, fun a na => ⟨a, v, rfl, upd_same, fun d nd dne => ⟨rfl, d, [(f, v)], upd_same, ?_, ?_, ?_⟩⟩⟩⟩
  · rw [upd_ne dne, upd_same]
  · rw [upd_ne dne] at nd
    exact nd
  · rw [upd_del na dne]
    rw [upd_ne dne] at nd
    exact q d nd
/-- x op y of an own class, which may raise -/
def tOwnS (C : Addr) (sp : Sp) (E : L2.St → XK) (ta tb : TE) : TE := fun σ H Q => ta σ H fun x H1 => tb σ H1 fun y H2 => rOwn C sp (E σ) x y H2 Q
theorem pe_ownS {op : Operator} {m : Str} {ps : List Str} {sp : Sp} {E : L2.St → XK} {a b : Expr} {ta tb : TE} (D : MethOk X.prog X.w X.K X.mg X.base CX k C m ps [] sp) (c : OpC X.K C) (hr : Room k' X.A) (hx : ∀ σ, PassesAt CX X σ (E σ)) (ha : PE X a ta) (hb : PE X b tb)
    (hk : k ≤ k' := by decide) (hm : m = PySem.dunder op.info.2 := by rfl) : PE X (.BinOp a op b pos) (tOwnS C sp E ta tb) := by
  obtain ⟨f, fd, ds, hM, hbi, hd, F⟩ := D
  refine ⟨fun pins s σ H Q I h => ?_⟩
  refine wpAny_BinOp (binT ha hb I h fun v u s2 x y H2 I2 rx ry q => ?_)
  obtain ⟨p, r, d1, d2, f1, f2, rfl, rfl, ea, eb, q⟩ := q
  cases rx
  cases ry
  obtain ⟨mA, oA, _, _, _, _⟩ := ins_get I2.hok ea
  obtain ⟨mB, oB, _, _, _, _⟩ := ins_get I2.hok eb
  obtain ⟨odA, IA, _⟩ := oA.look
  obtain ⟨odB, IB, _⟩ := oB.look
  obtain ⟨mf, fr⟩ := I2.fr
  subst hm
  refine PySem.W.binop_K fr I2.ok.mod.kin IA IB.type c.sf hM.at_ hM.fn ?_
  refine wpAny_mono (run_fnSD (E := E) (vs := [.ref p, .ref r]) F (hr.mono hk) hbi hd (hx σ) I2 (.cons rfl (.cons rfl .nil)) q) (fun _ _ z => back_ref z) fun _ _ z => z
end
end TW

namespace TW
open PySem PySem.Spec PyProof.Rows L2
/-! ### the text by places -/
def top (i : Nat) : Stmt := PySem.Challenge.pw_turnwires_k03_wires_one_behind_another.main.body.getD i (.Pass ⟨0, 0, 0, 0⟩)
/-! ### values -/
def nv (n : Nat) : V := .int (n : Int)
theorem same_upd {H : Hp} {p : Addr} {o : HO} (h : H p = none) : Same H (upd H p o) := fun b x e => by rw [upd_ne (ne_of_none e h)]; exact e
/-- an object that was not tracked ahead may change -/
theorem mutS {H H' : Hp} {p : Addr} {o : HO} (e : Same H H') (h : H p = none) : Same H (upd H' p o) := fun a u ha => by rw [upd_ne (ne_of_none ha h)]; exact e a u ha
theorem small64 {n : Nat} (h : n ≤ 100000) : n < sizeLine := Nat.lt_of_le_of_lt h (by decide)
theorem nv_get {l : List Nat} {i : Nat} {x : Nat} (h : l[i]? = some x) : (l.map nv)[i]? = some (nv x) := by rw [List.getElem?_map, h]; rfl
theorem of_nv_get {l : List Nat} {i : Nat} {y : V} (h : (l.map nv)[i]? = some y) : ∃ x, l[i]? = some x ∧ y = nv x := by
  rw [List.getElem?_map] at h
  cases e : l[i]? with
  | none => rw [e] at h; cases h
  | some x => rw [e] at h; exact ⟨x, rfl, (Option.some.inj h).symm⟩
theorem of_int_get {l : List Int} {i : Nat} {y : V} (h : (l.map V.int)[i]? = some y) : ∃ x, l[i]? = some x ∧ y = V.int x := by
  rw [List.getElem?_map] at h
  cases e : l[i]? with
  | none => rw [e] at h; cases h
  | some x => rw [e] at h; exact ⟨x, rfl, (Option.some.inj h).symm⟩
theorem decT {p : Prop} [Decidable p] {A B : Prop} (h : p) (a : A) : if (decide p) = true then A else B := by rw [decide_eq_true h]; exact iteT a
theorem decF {p : Prop} [Decidable p] {A B : Prop} (h : ¬ p) (b : B) : if (decide p) = true then A else B := by rw [decide_eq_false h]; exact iteF b
theorem yesT {σ : L2.St} {H : Hp} {A B : Hp → Prop} (h : A H) : tYes σ H (fun b H1 => if b = true then A H1 else B H1) := by
  show (if true = true then A H else B H)
  exact iteT h
/-- built-in names that the module leaves alone -/
structure Blt (mg : Str → Option Value) : Prop where
  len : mg "len" = none
  range : mg "range" = none
  int : mg "int" = none
  list : mg "list" = none
  enumerate : mg "enumerate" = none
  dict : mg "dict" = none
  zip : mg "zip" = none
  set : mg "set" = none
  sorted : mg "sorted" = none
  all : mg "all" = none
  abs : mg "abs" = none
  isinstance : mg "isinstance" = none
  bool : mg "bool" = none
section
variable {P : Program} {w : World} {K : PySem.W.Frag} {mg : Str → Option Value} {base : Heap}
/-! ### _law_cell: some int -/
abbrev s_l_cell : Stmt := top 20
theorem sc_l_cell : FnScope ["_law_script", "_law_k"] ["_law_script", "_law_k"] (defScope s_l_cell) := ⟨rfl, rfl, rfl, by decide +kernel, rfl, by decide +kernel, by decide +kernel⟩

def spCell (K : PySem.W.Frag) : Sp := fun vs H Q _ => ∃ (a : Addr) (ns : List Int) (k : Nat), vs = [.ref a, nv k] ∧ SqL K H a (ns.map V.int) ∧ ∀ z : Int, Q (.int z) H
theorem ok_cell {f : Addr} {fd : FuncData} (F : Fun K "_law_cell" "_law_cell" s_l_cell f fd) (T : Blt mg) : FnOk P w K mg base CX0 1 f fd ["_law_script", "_law_k"] (spCell K) := by
  refine F.ok sc_l_cell (fun vs H Q E h => ?_) (fun cdv A outer s H vs Q E hr h => ?_)
  · obtain ⟨a, ns, k, rfl, _⟩ := h; rfl
  · obtain ⟨a, ns, k, rfl, hS, q⟩ := h
    refine ⟨_, (pss_cons (ps_if (pt_cmpR op_lt (pv 1) (pe_callB call_len_seq (by rfl) T.len PySem.boot_len (pa_cons (pv 0) pa_nil)) (nomark _)) (pss_one (ps_ret (pe_ix ix_list (pv 0) (pv 1) (fun _ _ => rfl)))) pss_nil)
    (pss_one (ps_ret pe_int))), ?_⟩
    refine ⟨_, rfl, .ref a, rfl, a, _, rfl, .inl hS, _, _, rfl, rfl, _, rfl, ?_⟩
    by_cases c : k < ns.length
    · refine decT (by rw [List.length_map]; omega) ?_
      obtain ⟨z, hz⟩ : ∃ z, ns[k]? = some z := ⟨ns[k], List.getElem?_eq_getElem c⟩
      exact ⟨.ref a, rfl, _, rfl, a, _, _, _, rfl, rfl, hS, atI_nat (by rw [List.getElem?_map, hz]; rfl), q z⟩
    · refine decF (by rw [List.length_map]; omega) ?_
      exact q 0
end
section
variable {P : Program} {w : World} {K : PySem.W.Frag} {mg : Str → Option Value} {base : Heap}
/-! ### _law_row: a draw below each of the sizes -/
abbrev s_l_row : Stmt := top 21
theorem sc_l_row : FnScope ["_law_cell_here", "_law_sizes", "_law_out", "_law_size_here", "_law_seed", "_law_k", "_law_mixed"] ["_law_cell_here", "_law_sizes"] (defScope s_l_row) := ⟨rfl, rfl, rfl, by decide +kernel, rfl, by decide +kernel, by decide +kernel⟩

/-- the draws ds below the sizes ms, as far as they go -/
def Below (ds ms : List Nat) : Prop := ∀ (i d m : Nat), ds[i]? = some d → ms[i]? = some m → d < m
theorem Below.snoc {ds ms : List Nat} {d m : Nat} (h : Below ds ms) (hm : ms[ds.length]? = some m) (hd : d < m) : Below (ds ++ [d]) ms := by
  intro i e n he hn
  rw [List.getElem?_append] at he
  by_cases c : i < ds.length
  · rw [if_pos c] at he; exact h i e n he hn
  · rw [if_neg c] at he
    have hi : i - ds.length = 0 := by
      cases k : i - ds.length with
      | zero => rfl
      | succ j => rw [k] at he; simp at he
    rw [hi] at he
    have e1 : d = e := Option.some.inj he
    have e2 : i = ds.length := by omega
    rw [e2, hm] at hn
    rw [← e1, ← Option.some.inj hn]
    exact hd
def spRow (K : PySem.W.Frag) : Sp := fun vs H Q _ => ∃ (c : Int) (a : Addr) (ms : List Nat), vs = [.int c, .ref a] ∧ SqL K H a (ms.map nv) ∧ (∀ m ∈ ms, 0 < m ∧ m < 2 ^ 24) ∧ ms.length ≤ 1000 ∧
  ∀ (ds : List Nat) (p : Addr) (H' : Hp), Same H H' → H p = none → H' p = some (.lst (ds.map nv)) → ds.length = ms.length → Below ds ms → Q (.ref p) H'
theorem nat_int {z : Int} (h : 0 ≤ z) : V.int z = nv z.toNat := by
  show V.int z = V.int (z.toNat : Int)
  rw [Int.toNat_of_nonneg h]
theorem ok_row {f : Addr} {fd : FuncData} (F : Fun K "_law_row" "_law_row" s_l_row f fd) (T : Blt mg) : FnOk P w K mg base CX0 1 f fd ["_law_cell_here", "_law_sizes"] (spRow K) := by
  refine F.ok sc_l_row (fun vs H Q E h => ?_) (fun cdv A outer s H vs Q E hr h => ?_)
  · obtain ⟨c, a, ms, rfl, _⟩ := h; rfl
  · obtain ⟨c, a, ms, rfl, hS, hm, hlen, q⟩ := h
    refine ⟨_, (pss_cons (ps_set (i := 2) sc_l_row.nd rfl (.inl rfl) (pe_lst pa_nil))
    (pss_cons (ps_if (pt_cmpR op_ge (pv 0) (pe_op op_pow pe_int pe_int) (nomark _)) (pss_cons (ps_for PassesOwn.never rfl (pi_list (pv 1)) (pg_name (i := 3) sc_l_row.nd rfl (.inl rfl)) (pss_cons (ps_expr (pe_bm PySem.F.plainAttrs_list PySem.F.slot_list_append PySem.F.type_list_append mt_append (pv 2) (pa_cons (pe_op op_mod (pe_callTy call_int1 (by rfl) T.int (by decide +kernel) (pa_cons (pv 0) pa_nil)) (pv 3)) pa_nil)))
    (pss_one (ps_set (i := 0) sc_l_row.nd rfl (.inl rfl) (pe_op op_fdiv (pv 0) (pv 3))))))
    (pss_one (ps_ret (pv 2)))) pss_nil)
    (pss_cons (ps_set (i := 4) sc_l_row.nd rfl (.inl rfl) (pe_op op_mod (pe_callTy call_int1 (by rfl) T.int (by decide +kernel) (pa_cons (pv 0) pa_nil)) pe_int))
    (pss_cons (ps_for PassesOwn.never rfl (pi_range1 (by rfl) T.range (pa_cons (pe_callB call_len_seq (by rfl) T.len PySem.boot_len (pa_cons (pv 1) pa_nil)) pa_nil)) (pg_name (i := 5) sc_l_row.nd rfl (.inl rfl)) (pss_cons (ps_set (i := 6) sc_l_row.nd rfl (.inl rfl) (pe_op op_add (pe_op op_mod (pe_callTy call_int1 (by rfl) T.int (by decide +kernel) (pa_cons (pe_op op_pow (pe_op op_add (pe_op op_add (pv 4) (pe_op op_mul pe_int (pv 5))) pe_int) pe_int) pa_nil)) pe_int) (pv 5)))
    (pss_one (ps_expr (pe_bm PySem.F.plainAttrs_list PySem.F.slot_list_append PySem.F.type_list_append mt_append (pv 2) (pa_cons (pe_op op_mod (pe_callTy call_int1 (by rfl) T.int (by decide +kernel) (pa_cons (pe_op op_mod (pe_callTy call_int1 (by rfl) T.int (by decide +kernel) (pa_cons (pe_op op_mul (pv 6) pe_int) pa_nil)) pe_int) pa_nil)) (pe_ix ix_list (pv 1) (pv 5) (fun _ _ => rfl))) pa_nil))))))
    (pss_one (ps_ret (pv 2))))))), ?_⟩
    -- out = []
    refine ⟨Nat.zero_le _, fun o no => ?_⟩
    have s1 : Same H (upd H o (.lst [])) := same_upd no
    refine ⟨_, rfl, _, _, rfl, rfl, ⟨by decide, by decide, by decide⟩, _, _, rfl, rfl, _, rfl, ?_⟩
    refine ite2 (fun cc => ?_) (fun cc => ?_)
    · -- the great cell
      refine ⟨_, rfl, a, rfl, ⟨_, s1.seq hS⟩, for_list (K := K) (a := a) (xs := ms.map nv) (fun i σ H1 => ∃ (z : Int) (v : Option V) (ds : List Nat), σ = [some (.int z), some (.ref a), some (.ref o), v, none, none, none] ∧ Same H H1 ∧ H1 o = some (.lst (ds.map nv)) ∧ ds.length = i ∧ Below ds ms)
        ⟨c, none, [], rfl, s1, upd_same, rfl, fun i d m h => by simp at h⟩ (fun i σ H1 _ ⟨_, _, _, _, s2, _⟩ => s2.seq hS) ?_ ?_⟩
      · rintro i y σ H1 hi ⟨z, v, ds, rfl, s2, ho, hl, hb⟩
        obtain ⟨m, hmi, rfl⟩ := of_nv_get hi
        obtain ⟨m0, m1⟩ := hm m (List.mem_of_getElem? hmi)
        have h0 : 0 ≤ z % (m : Int) := Int.emod_nonneg _ (by omega)
        have h1 : z % (m : Int) < m := Int.emod_lt_of_pos _ (by omega)
        have hli : i < ms.length := (List.getElem?_eq_some_iff.mp hmi).1
        refine ⟨_, rfl, .inl ⟨rfl, _, .inl (.inl ho)⟩, _, rfl, .inl ⟨z, rfl, _, rfl, _, _, rfl, rfl, (by show (0 : Int) < m; omega), o, _, _, rfl, rfl, ho, small64 (by rw [List.length_map]; omega), ?_⟩⟩
        refine ⟨_, rfl, _, rfl, _, _, rfl, rfl, ⟨by omega, by omega⟩, ?_⟩
        refine ⟨z / m, _, ds ++ [(z % (m : Int)).toNat], rfl, mutS s2 no, ?_, by rw [List.length_append, hl]; rfl, hb.snoc (by rw [hl]; exact hmi) (by omega)⟩
        dsimp only
        rw [upd_same, List.map_append, nat_int h0]
        rfl
      · rintro σ H1 ⟨z, v, ds, rfl, s2, ho, hl, hb⟩
        exact ⟨_, rfl, q ds o H1 s2 no ho (by rw [hl, List.length_map]) hb⟩
    · -- seed
      refine ⟨_, rfl, .inl ⟨c, rfl, _, _, rfl, rfl, (by show (0 : Int) < 2147483647; decide), ?_⟩⟩
      dsimp only
      have g0 : 0 ≤ c % (2147483647 : Int) := Int.emod_nonneg _ (by decide)
      have g1 : c % (2147483647 : Int) < 2147483647 := Int.emod_lt_of_pos _ (by decide)
      generalize c % (2147483647 : Int) = sd at g0 g1
      refine ⟨.ref a, rfl, a, _, rfl, .inl (s1.seq hS), ((ms.map nv).length : Int), rfl, by omega, by rw [List.length_map]; omega, ?_⟩
      rw [Int.toNat_natCast, List.length_map]
      refine for_range (lo := 0) (n := ms.length) (fun i σ H1 => ∃ (v1 v2 : Option V) (ds : List Nat), σ = [some (.int c), some (.ref a), some (.ref o), none, some (.int sd), v1, v2] ∧ Same H H1 ∧ H1 o = some (.lst (ds.map nv)) ∧ ds.length = i ∧ Below ds ms)
        ⟨none, none, [], rfl, s1, upd_same, rfl, fun i d m h => by simp at h⟩ ?_ ?_
      · rintro i σ H1 hi ⟨v1, v2, ds, rfl, s2, ho, hl, hb⟩
        obtain ⟨m, hmi⟩ : ∃ m, ms[i]? = some m := ⟨ms[i], List.getElem?_eq_getElem hi⟩
        obtain ⟨m0, m1⟩ := hm m (List.mem_of_getElem? hmi)
        rw [Int.zero_add]
        refine ⟨_, rfl, _, rfl, _, _, rfl, rfl, .inl ⟨by decide, by decide⟩, _, _, rfl, rfl, _, _, rfl, rfl, _, _, rfl, rfl, ⟨by decide, by decide, by omega⟩, .inl ⟨_, rfl, _, _, rfl, rfl, (by show (0 : Int) < 2147483647; decide), _, rfl, _, _, rfl, rfl, ?_⟩⟩
        dsimp only
        generalize hX : (sd + 7919 * (i : Int) + 104729) ^ (5 : Int).toNat = x
        have x0 : 0 ≤ x % (2147483647 : Int) := Int.emod_nonneg _ (by decide)
        have x1 : x % (2147483647 : Int) < 2147483647 := Int.emod_lt_of_pos _ (by decide)
        generalize x % (2147483647 : Int) = y at x0 x1
        refine ⟨_, rfl, .inl ⟨rfl, _, .inl (.inl ho)⟩, _, rfl, _, _, rfl, rfl, .inl ⟨by omega, by omega⟩, .inl ⟨_, rfl, _, _, rfl, rfl, (by show (0 : Int) < 2147483629; decide), .inl ⟨_, rfl, .ref a, rfl, _, rfl, a, _, _, _, rfl, rfl, s2.seq hS, atI_nat (nv_get hmi), ?_⟩⟩⟩
        have h0 : 0 ≤ (y + (i : Int)) * 40692 % 2147483629 % (m : Int) := Int.emod_nonneg _ (by omega)
        have h1 : (y + (i : Int)) * 40692 % 2147483629 % (m : Int) < m := Int.emod_lt_of_pos _ (by omega)
        refine ⟨_, _, rfl, rfl, (by omega), o, _, _, rfl, rfl, ho, small64 (by rw [List.length_map]; omega), ?_⟩
        refine ⟨_, _, ds ++ [((y + (i : Int)) * 40692 % 2147483629 % (m : Int)).toNat], rfl, mutS s2 no, ?_, by rw [List.length_append, hl]; rfl, hb.snoc (by rw [hl]; exact hmi) (by omega)⟩
        dsimp only
        rw [upd_same, List.map_append, nat_int h0]
        rfl
      · rintro σ H1 ⟨v1, v2, ds, rfl, s2, ho, hl, hb⟩
        exact ⟨_, rfl, q ds o H1 s2 no ho hl hb⟩
end
section
variable {P : Program} {w : World} {K : PySem.W.Frag} {mg : Str → Option Value} {base : Heap}
/-! ### _law_drawn: a list of the places below n, each once -/
abbrev s_l_drawn : Stmt := top 22
theorem sc_l_drawn : FnScope ["_law_cell_here", "_law_n", "_law_left", "_law_draw", "_law_k"] ["_law_cell_here", "_law_n"] (defScope s_l_drawn) := ⟨rfl, rfl, rfl, by decide +kernel, rfl, by decide +kernel, by decide +kernel⟩

def spDrawn : Sp := fun vs H Q _ => ∃ (c : Int) (n : Nat), vs = [.int c, nv n] ∧ n ≤ 100 ∧
  ∀ (im : List Nat) (p : Addr) (H' : Hp), Same H H' → H p = none → H' p = some (.lst (im.map nv)) → IsPerm im → im.length = n → Q (.ref p) H'
theorem rgV_nat (n : Nat) : rgV 0 (n : Int) = (List.range n).map nv := by
  unfold rgV
  rw [show ((n : Int) - 0).toNat = n by omega]
  refine List.map_congr_left fun i _ => ?_
  show V.int (0 + (i : Int)) = V.int i
  rw [Int.zero_add]
theorem ok_drawn {f : Addr} {fd : FuncData} (F : Fun K "_law_drawn" "_law_drawn" s_l_drawn f fd) (T : Blt mg) (D_l_row : DefOk P w K mg base CX0 1 "_law_row" ["_law_cell_here", "_law_sizes"] [] (spRow K)) :
    FnOk P w K mg base CX0 2 f fd ["_law_cell_here", "_law_n"] spDrawn := by
  refine F.ok sc_l_drawn (fun vs H Q E h => ?_) (fun cdv A outer s H vs Q E hr h => ?_)
  · obtain ⟨c, n, rfl, _⟩ := h; rfl
  · obtain ⟨c, n, rfl, hn, q⟩ := h
    refine ⟨_, (pss_cons (ps_set (i := 2) sc_l_drawn.nd rfl (.inr rfl) (pe_listRg rfl (by rfl) T.list (prg_1 (by rfl) T.range (pv 1))))
    (pss_one (ps_ret (pe_lc (own := [("_law_draw", 3)]) (tt := tYes) (te := tBM K "list" rPopAt (tVar 2) (tCons (tVar 3) tNil)) rfl sc_l_drawn.nd (pi_list (pe_d D_l_row hr pass0 (pa_cons (pv 0) (pa_cons (pe_lc (own := [("_law_k", 4)]) (tt := tYes) rfl sc_l_drawn.nd (pi_range1 (by rfl) T.range (pa_cons (pv 1) pa_nil)) (blkOk_by (N := ["_law_cell_here", "_law_n", "_law_left", "_law_draw", "_law_k"]) (sc := defScope s_l_drawn) (by decide +kernel)) (fun _ _ _ _ _ => (pg_name (i := 4) sc_l_drawn.nd rfl (.inl rfl))) (fun _ _ _ _ _ => pts_nil) (fun _ _ _ _ _ => by exact (pe_op op_sub (pv 1) (pv 4)))) pa_nil)))) (blkOk_by (N := ["_law_cell_here", "_law_n", "_law_left", "_law_draw", "_law_k"]) (sc := defScope s_l_drawn) (by decide +kernel)) (fun _ _ _ _ _ => (pg_name (i := 3) sc_l_drawn.nd rfl (.inl rfl))) (fun _ _ _ _ _ => pts_nil) (fun _ _ _ _ _ => by exact (pe_bm PySem.F.plainAttrs_list PySem.F.slot_list_pop PySem.F.type_list_pop mt_popAt (pv 2) (pa_cons (pv 3) pa_nil))))))), ?_⟩
    -- _law_left = list(range(_law_n))
    refine ⟨_, rfl, _, rfl, ⟨by omega, by omega, by omega, by omega, by omega⟩, fun L nL => ?_⟩
    rw [rgV_nat]
    have s1 : Same H (upd H L (.lst ((List.range n).map nv))) := same_upd nL
    -- the sizes
    refine ⟨_, rfl, _, rfl, _, rfl, by omega, by omega, fun D nD => ?_⟩
    rw [Int.toNat_natCast]
    refine lc_range (lo := 0) (n := n) (fun i H1 => Same (upd H L (.lst ((List.range n).map nv))) H1 ∧ H1 D = some (.lst ((((List.range n).map fun k => n - k).take i).map nv))) ⟨same_upd nD, upd_same⟩ ?_ ?_
    · rintro i H1 hi ⟨s2, hD⟩
      rw [Int.zero_add]
      refine ⟨rfl, ?_⟩
      refine yesT ?_
      refine ⟨_, rfl, _, rfl, _, _, rfl, rfl, _, hD, small64 (by rw [List.length_map, List.length_take]; omega), mutS s2 nD, ?_⟩
      have e : ((List.range n).map fun k => n - k)[i]? = some (n - i) := by rw [List.getElem?_map, List.getElem?_range hi]; rfl
      rw [upd_same, List.take_add_one, e, List.map_append]
      dsimp only
      rw [show (n : Int) - (i : Int) = ((n - i : Nat) : Int) by omega]
      rfl
    · rintro H1 ⟨s2, hD⟩
      rw [List.take_of_length_le (by rw [List.length_map, List.length_range]; exact Nat.le_refl _)] at hD
      have nLD : L ≠ D := ne_of_none (H := upd H L (.lst ((List.range n).map nv))) upd_same nD
      refine ⟨c, D, (List.range n).map fun k => n - k, rfl, SqL.of hD, fun m hm => ?_, by rw [List.length_map, List.length_range]; omega, fun ds p H2 s3 np hp hl hb => ?_⟩
      · obtain ⟨k, hk, rfl⟩ := List.mem_map.mp hm
        have := List.mem_range.mp hk
        omega
      rw [List.length_map, List.length_range] at hl
      have s4 : Same (upd H L (.lst ((List.range n).map nv))) H2 := s2.trans s3
      have hL2 : H2 L = some (.lst ((List.range n).map nv)) := s4 L _ upd_same
      have nLp : L ≠ p := ne_of_none (s2 L _ upd_same) np
      -- the draws
      refine ⟨p, rfl, ⟨_, SqL.of hp⟩, fun O nO => ?_⟩
      have nOL : L ≠ O := ne_of_none hL2 nO
      have nOp : p ≠ O := ne_of_none hp nO
      refine lc_list (K := K) (a := p) (xs := ds.map nv) (fun i H3 => ∃ im rest : List Nat, Same H H3 ∧ H3 p = some (.lst (ds.map nv)) ∧ H3 L = some (.lst (rest.map nv)) ∧ H3 O = some (.lst (im.map nv)) ∧ im.length = i ∧ rest.length + i = n ∧ (im ++ rest).Perm (List.range n))
        ⟨[], List.range n, (s1.trans s4).trans (same_upd nO), by rw [upd_ne nOp]; exact hp, by rw [upd_ne nOL]; exact hL2, upd_same, rfl, by rw [List.length_range]; rfl, List.Perm.refl _⟩ (fun i H3 _ ⟨_, _, _, h, _⟩ => SqL.of h) ?_ ?_
      · rintro i y H3 hi ⟨im, rest, s5, h1, h2, h3, l1, l2, pm⟩
        obtain ⟨d, hd, rfl⟩ := of_nv_get hi
        have hin : i < n := by
          have := (List.getElem?_eq_some_iff.mp hd).1
          omega
        have hdn : d < n - i := hb i d (n - i) hd (by rw [List.getElem?_map, List.getElem?_range hin]; rfl)
        obtain ⟨x, hx⟩ : ∃ x, rest[d]? = some x := ⟨rest[d]'(by omega), List.getElem?_eq_getElem (by omega)⟩
        have hel := erase_len hx
        refine ⟨rfl, ?_⟩
        refine yesT ?_
        refine ⟨.ref L, rfl, .inl ⟨rfl, _, .inl (.inl h2)⟩, _, rfl, L, _, _, d, _, rfl, rfl, h2, by omega, by omega, ?_, nv_get hx, im.map nv, ?_, small64 (by rw [List.length_map, l1]; omega), im ++ [x], rest.eraseIdx d, ?_⟩
        · rw [seqIndex_of (by omega) (by rw [List.length_map]; omega), Int.toNat_natCast]
        · rw [upd_ne nOL.symm]; exact h3
        refine ⟨?_, ?_, ?_, ?_, by rw [List.length_append, l1]; rfl, by omega, draw_step pm hx⟩
        · exact mutS (mutS s5 nL) ((s1.trans s4).free nO)
        · rw [upd_ne nOp, upd_ne nLp.symm]; exact h1
        · rw [upd_ne nOL, upd_same, erase_map]
        · rw [upd_same, List.map_append]; rfl
      · rintro H3 ⟨im, rest, s5, h1, h2, h3, l1, l2, pm⟩
        rw [List.length_map, hl] at l1 l2
        have er : rest = [] := List.length_eq_zero_iff.mp (by omega)
        rw [er, List.append_nil] at pm
        obtain ⟨ip, il⟩ := isPerm_of pm
        exact q im O H3 s5 ((s1.trans s4).free nO) h3 ip il
/-! ### _law_size -/
abbrev s_l_size : Stmt := top 27
theorem sc_l_size : FnScope ["_law_draw"] ["_law_draw"] (defScope s_l_size) := ⟨rfl, rfl, rfl, by decide +kernel, rfl, by decide +kernel, by decide +kernel⟩

def spSize : Sp := fun vs H Q _ => ∃ d : Nat, vs = [nv d] ∧ ∀ n : Nat, 1 ≤ n → n ≤ 60 → Q (nv n) H
theorem ok_size {f : Addr} {fd : FuncData} (F : Fun K "_law_size" "_law_size" s_l_size f fd) : FnOk P w K mg base CX0 1 f fd ["_law_draw"] spSize := by
  refine F.ok sc_l_size (fun vs H Q E h => ?_) (fun cdv A outer s H vs Q E hr h => ?_)
  · obtain ⟨d, rfl, _⟩ := h; rfl
  · obtain ⟨d, rfl, q⟩ := h
    refine ⟨_, (pss_cons (ps_if (pt_cmpR op_eq (pe_op op_mod (pv 0) pe_int) pe_int (nomark _)) (pss_one (ps_ret (pe_op op_sub pe_int (pe_op op_mod (pe_op op_fdiv (pv 0) pe_int) pe_int)))) pss_nil)
    (pss_one (ps_ret (pe_op op_add pe_int (pe_op op_mod (pe_op op_fdiv (pv 0) pe_int) pe_int))))), ?_⟩
    refine ⟨_, rfl, _, _, rfl, rfl, (by show (0 : Int) < 8; decide), rfl, _, rfl, ite2 (fun _ => ?_) (fun _ => ?_)⟩
    · refine ⟨_, rfl, _, _, rfl, rfl, ⟨by decide, by decide⟩, _, _, rfl, rfl, (by show (0 : Int) < 9; decide), _, _, rfl, rfl, ?_⟩
      have e : V.int (60 - (d : Int) / 8 % 9) = nv (60 - d / 8 % 9) := by
        show V.int _ = V.int _
        congr 1
        omega
      show Q (V.int (60 - (d : Int) / 8 % 9)) H
      rw [e]
      exact q _ (by omega) (by omega)
    · refine ⟨_, rfl, _, _, rfl, rfl, ⟨by decide, by decide⟩, _, _, rfl, rfl, (by show (0 : Int) < 12; decide), _, _, rfl, rfl, ?_⟩
      exact q (1 + d / 8 % 12) (by omega) (by omega)
end
/-! ### lists of lists of places -/
structure Rg (H : Hp) (as : List Addr) (rs : List (List Nat)) : Prop where
  len : as.length = rs.length
  at_ : ∀ (i : Nat) (a : Addr) (r : List Nat), as[i]? = some a → rs[i]? = some r → H a = some (.lst (r.map nv))
theorem Rg.nil {H : Hp} : Rg H [] [] := ⟨rfl, fun i a r h _ => by simp at h⟩
theorem Rg.mono {H H' : Hp} {as : List Addr} {rs : List (List Nat)} (g : Rg H as rs) (s : Same H H') : Rg H' as rs := ⟨g.len, fun i a r h1 h2 => s _ _ (g.at_ i a r h1 h2)⟩
theorem Rg.know {H : Hp} {as : List Addr} {rs : List (List Nat)} (g : Rg H as rs) {a : Addr} (h : a ∈ as) : ∃ r : List Nat, H a = some (.lst (r.map nv)) := by
  obtain ⟨i, hi, e⟩ := List.mem_iff_getElem.mp h
  have hr : i < rs.length := by rw [← g.len]; exact hi
  exact ⟨rs[i], g.at_ i a _ (by rw [← e]; exact List.getElem?_eq_getElem hi) (List.getElem?_eq_getElem hr)⟩
theorem Rg.upd {H : Hp} {as : List Addr} {rs : List (List Nat)} (g : Rg H as rs) {p : Addr} {o : HO} (h : p ∉ as) : Rg (upd H p o) as rs := ⟨g.len, fun i a r h1 h2 => by
  rw [upd_ne (fun e => h (by rw [← e]; exact List.mem_of_getElem? h1))]
  exact g.at_ i a r h1 h2⟩
theorem Rg.snoc {H : Hp} {as : List Addr} {rs : List (List Nat)} (g : Rg H as rs) {a : Addr} {r : List Nat} (h : H a = some (.lst (r.map nv))) : Rg H (as ++ [a]) (rs ++ [r]) := by
  refine ⟨by rw [List.length_append, List.length_append, g.len]; rfl, fun i b q h1 h2 => ?_⟩
  rw [List.getElem?_append] at h1 h2
  by_cases c : i < as.length
  · rw [if_pos c] at h1
    rw [if_pos (by rw [← g.len]; exact c)] at h2
    exact g.at_ i b q h1 h2
  · rw [if_neg c] at h1
    rw [if_neg (by rw [← g.len]; exact c)] at h2
    cases k : i - as.length with
    | zero =>
      rw [k] at h1
      rw [← g.len, k] at h2
      have e1 : a = b := Option.some.inj h1
      have e2 : r = q := Option.some.inj h2
      rw [← e1, ← e2]
      exact h
    | succ j => rw [k] at h1; simp at h1
theorem all_flat (l : List Nat) : (l.map nv).all flatV = true := by
  rw [List.all_eq_true]
  intro x hx
  obtain ⟨y, _, rfl⟩ := List.mem_map.mp hx
  rfl
theorem inV_nv (p : Nat) (l : List Nat) : inV (nv p) (l.map nv) = decide (p ∈ l) := by
  unfold inV
  induction l with
  | nil => rfl
  | cons a l ih =>
    rw [List.map_cons, List.any_cons, ih]
    show ((a : Int) == (p : Int) || decide (p ∈ l)) = decide (p ∈ a :: l)
    by_cases c : p = a
    · subst c; simp
    · have : ((a : Int) == (p : Int)) = false := by
        rw [beq_eq_false_iff_ne]
        omega
      rw [this, Bool.false_or]
      simp [c]
section
variable {P : Program} {w : World} {K : PySem.W.Frag} {mg : Str → Option Value} {base : Heap}
/-! ### _law_rings -/
abbrev s_l_rings : Stmt := top 24
theorem sc_l_rings : FnScope ["_law_images", "_law_out", "_law_seen", "_law_place", "_law_ring"] ["_law_images"] (defScope s_l_rings) := ⟨rfl, rfl, rfl, by decide +kernel, rfl, by decide +kernel, by decide +kernel⟩

def spRings (K : PySem.W.Frag) : Sp := fun vs H Q _ => ∃ (a : Addr) (im : List Nat), vs = [.ref a] ∧ SqL K H a (im.map nv) ∧ IsPerm im ∧ im.length ≤ 100 ∧
  ∀ (o : Addr) (as : List Addr) (H' : Hp), Same H H' → H o = none → (∀ a ∈ as, H a = none) → o ∉ as → as.Nodup → H' o = some (.lst (as.map V.ref)) → Rg H' as (rings (ap im) im.length) → Q (.ref o) H'
theorem ok_l_rings {f : Addr} {fd : FuncData} (F : Fun K "_law_rings" "_law_rings" s_l_rings f fd) (T : Blt mg) : FnOk P w K mg base CX0 1 f fd ["_law_images"] (spRings K) := by
  refine F.ok sc_l_rings (fun vs H Q E h => ?_) (fun cdv A outer s H vs Q E hr h => ?_)
  · obtain ⟨a, im, rfl, _⟩ := h; rfl
  · obtain ⟨a, im, rfl, hS, hI, hn, q⟩ := h
    have P := hI.perm
    refine ⟨_, (pss_cons (ps_set (i := 1) sc_l_rings.nd rfl (.inl rfl) (pe_lst pa_nil))
    (pss_cons (ps_set (i := 2) sc_l_rings.nd rfl (.inl rfl) (pe_lst pa_nil))
    (pss_cons (ps_for PassesOwn.never rfl (pi_range1 (by rfl) T.range (pa_cons (pe_callB call_len_seq (by rfl) T.len PySem.boot_len (pa_cons (pv 0) pa_nil)) pa_nil)) (pg_name (i := 3) sc_l_rings.nd rfl (.inl rfl)) (pss_one (ps_if (pt_cmpR op_notIn_seq (pv 3) (pv 2) rfl) (pss_cons (ps_set (i := 4) sc_l_rings.nd rfl (.inl rfl) (pe_lst (pa_cons (pv 3) pa_nil)))
    (pss_cons (ps_while PassesOwn.never (pt_cmpR op_ne (pe_ix ix_list (pv 0) (pe_ix ix_list (pv 4) (pe_un un_neg pe_int) (fun _ _ => rfl)) (fun _ _ => rfl)) (pv 3) (nomark _)) (pss_one (ps_expr (pe_bm PySem.F.plainAttrs_list PySem.F.slot_list_append PySem.F.type_list_append mt_append (pv 4) (pa_cons (pe_ix ix_list (pv 0) (pe_ix ix_list (pv 4) (pe_un un_neg pe_int) (fun _ _ => rfl)) (fun _ _ => rfl)) pa_nil)))))
    (pss_cons (ps_set (i := 2) sc_l_rings.nd rfl (.inl rfl) (pe_op op_cat (pv 2) (pv 4)))
    (pss_one (ps_if (pt_cmpR op_gt (pe_callB call_len_seq (by rfl) T.len PySem.boot_len (pa_cons (pv 4) pa_nil)) pe_int (nomark _)) (pss_one (ps_expr (pe_bm PySem.F.plainAttrs_list PySem.F.slot_list_append PySem.F.type_list_append mt_append (pv 1) (pa_cons (pv 4) pa_nil)))) pss_nil))))) pss_nil)))
    (pss_one (ps_ret (pv 1)))))), ?_⟩
    -- out = []; seen = []
    refine ⟨Nat.zero_le _, fun o no => ⟨Nat.zero_le _, fun e ne => ?_⟩⟩
    have s1 : Same H (upd H o (.lst [])) := same_upd no
    have s2 : Same H (upd (upd H o (.lst [])) e (.lst [])) := s1.trans (same_upd ne)
    have noe : o ≠ e := ne_of_none (H := upd H o (.lst [])) upd_same ne
    refine ⟨_, rfl, a, _, rfl, .inl (s2.seq hS), _, rfl, by omega, by rw [List.length_map]; omega, ?_⟩
    rw [Int.toNat_natCast, List.length_map]
    refine for_range (lo := 0) (n := im.length) (fun i σ H1 => ∃ (v3 v4 : Option V) (sn : List Nat) (x : Addr) (as : List Addr), σ = [some (.ref a), some (.ref o), some (.ref x), v3, v4] ∧ Same H H1 ∧
        H1 x = some (.lst (sn.map nv)) ∧ (∀ y, y ∈ sn ↔ ∃ q, q < i ∧ y ∈ ring (ap im) im.length q) ∧ sn.length ≤ i * 100 ∧ x ≠ o ∧ H x = none ∧
        H1 o = some (.lst (as.map V.ref)) ∧ Rg H1 as (ringsTo (ap im) im.length i) ∧ o ∉ as ∧ as.Nodup ∧ (∀ a ∈ as, H a = none))
      ⟨none, none, [], e, [], rfl, s2, upd_same, fun y => ⟨fun h => by simp at h, fun ⟨q, h, _⟩ => absurd h (Nat.not_lt_zero _)⟩, Nat.zero_le _, noe.symm, s1.free ne, by rw [upd_ne noe, upd_same]; rfl, Rg.nil, by simp, by simp, by simp⟩ ?_ ?_
    · rintro i σ H1 hi ⟨v3, v4, sn, x, as, rfl, s3, hx, hsn, hsl, nxo, nx, ho, hg, hoa, hnd, hfr⟩
      rw [Int.zero_add]
      -- place not in seen
      refine ⟨_, rfl, _, rfl, x, _, rfl, .inl (SqL.of hx), rfl, all_flat sn, _, rfl, ?_⟩
      have ei : inV (V.int (i : Int)) (sn.map nv) = decide (i ∈ sn) := inV_nv i sn
      rw [ei]
      by_cases c : i ∈ sn
      · rw [decide_eq_true c]
        refine iteF ?_
        have l0 := (seen_lead P hi hsn).mp c
        exact ⟨_, v4, sn, x, as, rfl, s3, hx, seen_skip P hi hsn c, by omega, nxo, nx, ho, by rw [ringsTo_skip l0]; exact hg, hoa, hnd, hfr⟩
      · rw [decide_eq_false c]
        refine iteT ?_
        have l1 : lead (ap im) im.length i = true := by
          cases z : lead (ap im) im.length i with
          | true => rfl
          | false => exact absurd ((seen_lead P hi hsn).mpr z) c
        obtain ⟨p0, pe, pl, _⟩ := per_spec P hi
        -- ring = [place]
        refine ⟨_, rfl, by show 1 ≤ sizeLine; decide, fun r nr => ?_⟩
        have nro : o ≠ r := ne_of_none ho nr
        have nrx : x ≠ r := ne_of_none hx nr
        have s4 : ∀ z, Same H (upd H1 r z) := fun z => mutS s3 (s3.free nr)
        -- while
        refine ⟨fun m σ H2 => ∃ j, j < per (ap im) im.length i ∧ m = per (ap im) im.length i - (j + 1) ∧ σ = [some (.ref a), some (.ref o), some (.ref x), some (nv i), some (.ref r)] ∧ H2 = upd H1 r (.lst ((pref (ap im) i (j + 1)).map nv)), ⟨_, 0, p0, rfl, rfl, rfl⟩, ?_⟩
        rintro m σ H2 ⟨j, hj, rfl, rfl, rfl⟩
        have hA := (s4 (.lst ((pref (ap im) i (j + 1)).map nv))).seq hS
        have eP : (pref (ap im) i (j + 1)).map nv = (pref (ap im) i j).map nv ++ [nv (it (ap im) j i)] := by rw [pref_succ, List.map_append]; rfl
        have hlt : it (ap im) j i < im.length := P.it_lt j hi
        have hR : SqL K (upd H1 r (.lst ((pref (ap im) i (j + 1)).map nv))) r ((pref (ap im) i (j + 1)).map nv) := SqL.of upd_same
        have gl : atI ((pref (ap im) i (j + 1)).map nv) (-1) = some (nv (it (ap im) j i)) := by rw [eP]; exact atI_last _ _
        have gi : atI (im.map nv) ((it (ap im) j i : Nat) : Int) = some (nv (it (ap im) (j + 1) i)) := atI_nat (nv_get (ap_get hlt))
        refine ⟨_, rfl, _, rfl, 1, rfl, r, _, _, _, rfl, rfl, hR, gl, a, _, _, _, rfl, rfl, hA, gi, _, rfl, rfl, _, rfl, ?_⟩
        by_cases cb : it (ap im) (j + 1) i = i
        · -- the ring is whole
          have ej := (back_iff P hi hj).mp cb
          rw [cb, decide_eq_true rfl]
          refine iteF ?_
          have eR : pref (ap im) i (j + 1) = ring (ap im) im.length i := by rw [ej]; rfl
          rw [eR]
          -- seen = seen + ring
          refine ⟨_, rfl, _, rfl, x, r, _, _, rfl, rfl, by rw [upd_ne nrx]; exact hx, upd_same, ?_, fun x' nx' => ?_⟩
          · rw [List.length_map, List.length_map, ring_len]
            exact Nat.le_of_lt (small64 (by have : i * 100 ≤ 100 * 100 := Nat.mul_le_mul_right _ (by omega); omega))
          rw [← List.map_append]
          have nro' : o ≠ x' := ne_of_none (H := upd H1 r _) (by rw [upd_ne nro]; exact ho) nx'
          have nrr' : r ≠ x' := ne_of_none (H := upd H1 r _) upd_same nx'
          have s5 : Same H (upd (upd H1 r (.lst ((ring (ap im) im.length i).map nv))) x' (.lst ((sn ++ ring (ap im) im.length i).map nv))) := (s4 _).trans (same_upd nx')
          have hro : r ∉ as := fun hm => by
            obtain ⟨z, hz⟩ := hg.know hm
            rw [hz] at nr
            cases nr
          have hxas : x' ∉ as := fun hm => by
            obtain ⟨z, hz⟩ := hg.know hm
            rw [upd_ne (fun e => hro (by rw [← e]; exact hm)), hz] at nx'
            cases nx'
          have hlen : (sn ++ ring (ap im) im.length i).length ≤ (i + 1) * 100 := by rw [List.length_append, ring_len]; omega
          -- if len(ring) > 1
          refine ⟨_, rfl, r, _, rfl, .inl (SqL.of (by rw [upd_ne nrr']; exact upd_same)), _, _, rfl, rfl, _, rfl, ?_⟩
          by_cases ci : ap im i = i
          · refine decF (by rw [List.length_map, ring_len, (per_one P hi).mpr ci]; omega) ?_
            refine ⟨_, _, _, x', as, rfl, s5, upd_same, seen_more hsn, hlen, nro'.symm, (s4 _).free nx', by rw [upd_ne nro', upd_ne nro]; exact ho, ?_, hoa, hnd, hfr⟩
            rw [ringsTo_stay ci]
            exact (hg.upd hro).upd hxas
          · refine decT (by
              rw [List.length_map, ring_len]
              have : per (ap im) im.length i ≠ 1 := fun z => ci ((per_one P hi).mp z)
              omega) ?_
            have ho5 : (upd (upd H1 r (.lst ((ring (ap im) im.length i).map nv))) x' (.lst ((sn ++ ring (ap im) im.length i).map nv))) o = some (.lst (as.map V.ref)) := by rw [upd_ne nro', upd_ne nro]; exact ho
            refine ⟨_, rfl, .inl ⟨rfl, _, SqL.of ho5⟩, _, rfl, o, _, _, rfl, rfl, ho5, small64 (by rw [List.length_map, hg.len]; have := ringsTo_len (ap im) im.length i; omega), ?_⟩
            refine ⟨_, _, _, x', as ++ [r], rfl, mutS s5 no, by rw [upd_ne nro'.symm]; exact upd_same, seen_more hsn, hlen, nro'.symm, (s4 _).free nx', by rw [upd_same, List.map_append]; rfl, ?_, ?_, ?_, ?_⟩
            · rw [ringsTo_more l1 ci]
              refine Rg.snoc (((hg.upd hro).upd hxas).upd hoa) ?_
              rw [upd_ne nro.symm, upd_ne nrr']
              exact upd_same
            · rw [List.mem_append, not_or]
              exact ⟨hoa, fun h => nro (List.mem_singleton.mp h)⟩
            · exact nd_snoc hnd hro
            · intro b hb
              rcases List.mem_append.mp hb with h | h
              · exact hfr b h
              · rw [List.mem_singleton.mp h]; exact s3.free nr
        · have ej : j + 1 ≠ per (ap im) im.length i := fun z => cb ((back_iff P hi hj).mpr z)
          rw [decide_eq_false (fun z => cb (by have := V.int.inj z; omega))]
          refine iteT ⟨fun σ' H' => σ' = [some (.ref a), some (.ref o), some (.ref x), some (nv i), some (.ref r)] ∧ H' = upd H1 r (.lst ((pref (ap im) i (j + 1 + 1)).map nv)), fun σ' H' h => ⟨_, ?_, j + 1, by omega, rfl, h.1, h.2⟩, ?_⟩
          · omega
          refine ⟨_, rfl, .inl ⟨rfl, _, hR⟩, _, rfl, _, rfl, 1, rfl, r, _, _, _, rfl, rfl, hR, gl, a, _, _, _, rfl, rfl, hA, gi, r, _, _, rfl, rfl, upd_same, small64 (by rw [List.length_map, pref_len]; omega), rfl, ?_⟩
          rw [upd_upd, pref_succ (ap im) i (j + 1), List.map_append]
          rfl
    · rintro σ H1 ⟨v3, v4, sn, x, as, rfl, s3, hx, hsn, hsl, nxo, nx, ho, hg, hoa, hnd, hfr⟩
      exact ⟨_, rfl, q o as H1 s3 no hfr hoa hnd ho hg⟩
end
/-! ### dicts from places to places -/
def natKV (g : List (Nat × Nat)) : List (Key × V) := g.map fun p => (Sum.inl (p.1 : Int), nv p.2)
theorem natKV_append (a b : List (Nat × Nat)) : natKV (a ++ b) = natKV a ++ natKV b := List.map_append
theorem natKV_none : ∀ {g : List (Nat × Nat)} {x : Nat}, x ∉ g.map Prod.fst → valV (natKV g) (Sum.inl (x : Int)) = none
  | [], x, _ => rfl
  | (a, b) :: g, x, h => by
    have h1 : ¬ x = a := fun e => h (by rw [e]; exact List.mem_cons_self)
    have h2 : x ∉ g.map Prod.fst := fun e => h (List.mem_cons_of_mem _ e)
    show valV ((Sum.inl (a : Int), nv b) :: natKV g) _ = none
    rw [valV_neg (fun e => h1 (by have := Sum.inl.inj e; omega))]
    exact natKV_none h2
theorem natKV_some : ∀ {g : List (Nat × Nat)} {x y : Nat}, (g.map Prod.fst).Nodup → (x, y) ∈ g → valV (natKV g) (Sum.inl (x : Int)) = some (nv y)
  | [], x, y, _, h => by cases h
  | (a, b) :: g, x, y, hn, h => by
    have hn' : (a :: g.map Prod.fst).Nodup := hn
    obtain ⟨n1, n2⟩ := List.nodup_cons.mp hn'
    show valV ((Sum.inl (a : Int), nv b) :: natKV g) _ = _
    rcases List.mem_cons.mp h with e | e
    · have e1 : x = a := congrArg Prod.fst e
      have e2 : y = b := congrArg Prod.snd e
      rw [e1, e2, valV_pos rfl]
    · have hxa : ¬ a = x := fun q => n1 (by rw [q]; exact List.mem_map.mpr ⟨(x, y), e, rfl⟩)
      rw [valV_neg (fun q => hxa (by have := Sum.inl.inj q; omega))]
      exact natKV_some n2 e
theorem natKV_len (g : List (Nat × Nat)) : (natKV g).length = g.length := List.length_map _
/-- what a dict of a map's pairs tells -/
theorem graph_get {f : Nat → Nat} {l : List Nat} (hn : l.Nodup) (x : Nat) : valV (natKV (graph f l)) (Sum.inl (x : Int)) = if x ∈ l then some (nv (f x)) else none := by
  by_cases c : x ∈ l
  · rw [if_pos c]
    exact natKV_some (by rw [graph_fst]; exact hn) (List.mem_map.mpr ⟨x, c, rfl⟩)
  · rw [if_neg c]
    exact natKV_none (by rw [graph_fst]; exact c)
theorem cutV_from1 (xs : List V) : cutV xs (some 1) none = xs.drop 1 := by
  unfold cutV
  rw [show HT.sIx xs.length 0 (some 1) = min 1 xs.length from HT.sIx_nat xs.length 0 1, HT.sIx_none]
  cases xs with
  | nil => rfl
  | cons x r =>
    rw [show min 1 (x :: r).length = 1 by rw [List.length_cons]; omega]
    show (List.take ((x :: r).length - 1) r) = r
    rw [List.length_cons, Nat.add_sub_cancel]
    exact List.take_length
theorem cutV_to1 (xs : List V) : cutV xs none (some 1) = xs.take 1 := by
  unfold cutV
  rw [show HT.sIx xs.length xs.length (some 1) = min 1 xs.length from HT.sIx_nat xs.length xs.length 1, HT.sIx_none, List.drop_zero, Nat.sub_zero]
  cases xs with
  | nil => rfl
  | cons x r => rw [show min 1 (x :: r).length = 1 by rw [List.length_cons]; omega]
theorem rot_nv (r : List Nat) : (rot r).map nv = (r.map nv).drop 1 ++ (r.map nv).take 1 := by
  unfold rot
  rw [List.map_append, List.map_drop, List.map_take]
section
variable {P : Program} {w : World} {K : PySem.W.Frag} {mg : Str → Option Value} {base : Heap}
/-- a def with defaults that lets nothing out -/
theorem okD {x qual : Str} {params : Arguments} {body : List Stmt} {scope : Scope} {dvs : List V} {kws : List (Str × V)} {f : Addr} {fd : FuncData} {N ps : List Str} {k : Nat} {sp : Sp} (F : FunD K x qual params body scope dvs kws f fd) (S : FnScope N ps scope) (len : ∀ vs H Q E, sp vs H Q E → vs.length = ps.length)
    (hb : ∀ (cdv : Value) (A : Around) (outer : List Env) (s : Shared) (H : Hp) (vs : List V) (Q : VK) (E : XK), Room k (A.deeper (envOfC qual scope s.heap.objs.size f cdv)) → sp vs H Q E →
      ∃ t, PSs (cxOf CX0 P w K mg base N qual scope f cdv A outer s H E).nox body t ∧ t { nx := fun _ H' => Q .non H', rt := Q } (start N vs) H) : FnOk P w K mg base CX0 (k + 1) f fd ps sp :=
  F.ok S len fun cdv A outer s H vs Q E hr h => by
    obtain ⟨t, p, q⟩ := hb cdv A outer s H vs Q E hr h
    exact ⟨t, p.nox, q⟩
/-! ### moves_of -/
abbrev s_moves_of : Stmt := top 13
theorem sc_moves_of : FnScope ["rings", "size", "moves", "index", "ring", "place", "image"] ["rings", "size"] (defScope s_moves_of) := ⟨rfl, rfl, rfl, by decide +kernel, rfl, by decide +kernel, by decide +kernel⟩

/-- the size: None, or a number above all places -/
def SizeV (z : V) (rs : List (List Nat)) : Prop := z = .non ∨ ∃ n : Nat, z = nv n ∧ ∀ x ∈ rs.flatten, x < n
def spMoves (K : PySem.W.Frag) : Sp := fun vs H Q _ => ∃ (a : Addr) (z : V) (as : List Addr) (rs : List (List Nat)), vs = [.ref a, z] ∧ SqL K H a (as.map V.ref) ∧ Rg H as rs ∧ SizeV z rs ∧ (∀ r ∈ rs, r ≠ []) ∧ rs.flatten.Nodup ∧ rs.flatten.length ≤ 1000 ∧
  ∀ (d : Addr) (H' : Hp), Same H H' → H d = none → H' d = some (.dK (natKV (pairs rs))) → Q (.ref d) H'
theorem ok_moves_of {f : Addr} {fd : FuncData} (F : FunD K "moves_of" "moves_of" (defArgs s_moves_of) (defBody s_moves_of) (defScope s_moves_of) [.non] [] f fd) (T : Blt mg) : FnOk P w K mg base CX0 1 f fd ["rings", "size"] (spMoves K) := by
  refine okD F sc_moves_of (fun vs H Q E h => ?_) (fun cdv A outer s H vs Q E hr h => ?_)
  · obtain ⟨a, z, as, rs, rfl, _⟩ := h; rfl
  · obtain ⟨a, z, as, rs, rfl, hS, hg, hz, hne, hnd, hlen, q⟩ := h
    have hu := hu_of hr
    refine ⟨_, (pss_cons (ps_set (i := 2) sc_moves_of.nd rfl (.inl rfl) pe_dnewK)
    (pss_cons (ps_for PassesOwn.never rfl (pi_enum (by rfl) T.enumerate (pa_cons (pv 0) pa_nil)) (pg_tup rfl (pgs_cons (pg_name (i := 3) sc_moves_of.nd rfl (.inl rfl)) (pgs_cons (pg_name (i := 4) sc_moves_of.nd rfl (.inl rfl)) pgs_nil))) (pss_cons (ps_if (pt_not (pt_truth (pv 4) (by intro _; rfl))) pss_never pss_nil)
    (pss_one (ps_for PassesOwn.never rfl (pi_zip (by rfl) T.zip (pa_cons (pv 4) (pa_cons (pe_op op_cat (pe_slice sl_list (pv 4) (po_some pe_int) po_none) (pe_slice sl_list (pv 4) po_none (po_some pe_int))) pa_nil))) (pg_tup rfl (pgs_cons (pg_name (i := 5) sc_moves_of.nd rfl (.inl rfl)) (pgs_cons (pg_name (i := 6) sc_moves_of.nd rfl (.inl rfl)) pgs_nil))) (pss_cons (ps_if (PW.pt (pw_or (pt_cmpR op_lt (pv 5) pe_int (nomark _)) (pw_or (pt_cmp (pc_din hu (pv 5) (pv 2))) (pw_or1 (PW.pt (pw_and (pt_cmpR op_notN (pv 1) pe_non (nomark _)) (pw_and1 (pt_cmpR op_ge (pv 5) (pv 1) (nomark _))))))))) pss_never pss_nil)
    (pss_one (ps_dput hu (pv 2) (pv 5) (pv 6) rfl)))))))
    (pss_one (ps_ret (pv 2))))), ?_⟩
    intro d nd
    have s1 : Same H (upd H d (.dK [])) := same_upd nd
    refine ⟨.ref a, rfl, a, _, rfl, s1.seq hS, ?_⟩
    refine for_it (walk_enum (K := K) (a := a) (xs := as.map V.ref)) (fun i σ H1 => ∃ v3 v4 v5 v6 : Option V, σ = [some (.ref a), some z, some (.ref d), v3, v4, v5, v6] ∧ Same H H1 ∧ H1 d = some (.dK (natKV (pairs (rs.take i)))))
      ⟨none, none, none, none, rfl, s1, upd_same⟩ (fun i σ H1 _ ⟨_, _, _, _, _, s2, _⟩ => s2.seq hS) ?_ ?_
    · rintro i y σ H1 H2 hi ⟨v3, v4, v5, v6, rfl, s2, hd⟩ ⟨T1, x1, x2, rfl, nT, rfl, f1, f2⟩
      have e1 : x1 = V.int (i : Nat) := (Option.some.inj f1).symm
      subst e1
      rw [List.length_map] at hi
      obtain ⟨b, hb⟩ : ∃ b, as[i]? = some b := ⟨as[i], List.getElem?_eq_getElem hi⟩
      have e2 : x2 = V.ref b := by
        have f3 : (as.map V.ref)[i]? = some x2 := f2
        rw [List.getElem?_map, hb] at f3
        exact (Option.some.inj f3).symm
      subst e2
      have hir : i < rs.length := by rw [← hg.len]; exact hi
      obtain ⟨r, hr'⟩ : ∃ r, rs[i]? = some r := ⟨rs[i], List.getElem?_eq_getElem hir⟩
      have hbr := hg.at_ i b r hb hr'
      have hr0 : r ≠ [] := hne r (List.mem_of_getElem? hr')
      have dT : d ≠ T1 := ne_of_none hd nT
      have s3 : Same H (upd H1 T1 (.tup [V.int (i : Nat), V.ref b])) := mutS s2 (s2.free nT)
      -- index, ring = the pair
      refine ⟨T1, _, rfl, SqT.of upd_same, rfl, _, _, rfl, _, _, rfl, rfl, ?_⟩
      -- if not ring
      have hB : SqL K (upd H1 T1 (.tup [V.int (i : Nat), V.ref b])) b (r.map nv) := SqL.of (s3 _ _ hbr)
      refine ⟨_, rfl, true, .inl ⟨_, hB, by cases r with | nil => exact absurd rfl hr0 | cons x r => rfl⟩, iteF ?_⟩
      -- zip(ring, ring[1:] + ring[:1])
      refine ⟨_, rfl, _, rfl, 1, rfl, b, _, rfl, hB, fun p1 np1 => ⟨_, rfl, 1, rfl, b, _, rfl, (same_upd np1).seq hB, fun p2 np2 => ?_⟩⟩
      rw [cutV_from1, cutV_to1]
      rw [cutV_from1] at np2
      have n12 : p1 ≠ p2 := ne_of_none (upd_same (H := upd H1 T1 _)) np2
      refine ⟨p1, p2, _, _, rfl, rfl, by rw [upd_ne n12]; exact upd_same, upd_same, Nat.le_trans (show _ ≤ 2000 from ?_) (by decide), fun p3 np3 => ?_⟩
      · rw [List.length_drop, List.length_take, List.length_map]
        have : r.length ≤ rs.flatten.length := by
          have h1 : r.length = (nxt r).length := (nxt_len r).symm
          have h2 := pairs_snoc hr'
          have h3 := pairs_take_len rs (i + 1)
          rw [h2, List.length_append] at h3
          omega
        omega
      rw [← rot_nv]
      have sA : Same (upd H1 T1 (.tup [V.int (i : Nat), V.ref b])) (upd (upd (upd (upd H1 T1 (.tup [V.int (i : Nat), V.ref b])) p1 (.lst ((r.map nv).drop 1))) p2 (.lst ((r.map nv).take 1))) p3 (.lst ((rot r).map nv))) :=
        ((same_upd np1).trans (same_upd np2)).trans (same_upd np3)
      refine ⟨b, p3, _, _, rfl, sA.seq hB, SqL.of upd_same, ?_⟩
      have dp1 : d ≠ p1 := ne_of_none (H := upd H1 T1 _) (by rw [upd_ne dT]; exact hd) np1
      have dp2 : d ≠ p2 := ne_of_none (H := upd (upd H1 T1 _) p1 _) (by rw [upd_ne dp1, upd_ne dT]; exact hd) np2
      have dp3 : d ≠ p3 := ne_of_none (H := upd (upd (upd H1 T1 _) p1 _) p2 _) (by rw [upd_ne dp2, upd_ne dp1, upd_ne dT]; exact hd) np3
      have n3b : p3 ≠ b := fun e => by
        have h1 := (same_upd (o := .lst ((r.map nv).drop 1)) np1).trans (same_upd (o := .lst ((r.map nv).take 1)) np2)
        have h2 := h1 b _ (s3 _ _ hbr)
        rw [e, h2] at np3
        cases np3
      refine for_it (walk_zip (K := K) (a := b) (b := p3) (xs := r.map nv) (ys := (rot r).map nv) (n := r.length) (by rw [List.length_map, List.length_map, rot_len]; omega))
        (fun j σ H3 => ∃ v5 v6 : Option V, σ = [some (.ref a), some z, some (.ref d), some (V.int (i : Nat)), some (.ref b), v5, v6] ∧ Same H H3 ∧ H3 p3 = some (.lst ((rot r).map nv)) ∧ H3 d = some (.dK (natKV (pairs (rs.take i) ++ (nxt r).take j))))
        ⟨v5, v6, rfl, s3.trans sA, upd_same, by rw [upd_ne dp3, upd_ne dp2, upd_ne dp1, upd_ne dT, List.take_zero, List.append_nil]; exact hd⟩ (fun j σ H3 _ ⟨_, _, _, s4, h4, _⟩ => ⟨SqL.of (s4 _ _ hbr), SqL.of h4⟩) ?_ ?_
      · rintro j y σ H3 H4 hj ⟨v5, v6, rfl, s4, h4, h5⟩ ⟨T2, x1, x2, rfl, nT2, rfl, g1, g2⟩
        obtain ⟨x, hx, rfl⟩ := of_nv_get g1
        obtain ⟨y, hy, rfl⟩ := of_nv_get g2
        have dT2 : d ≠ T2 := ne_of_none h5 nT2
        have h5' : (upd H3 T2 (.tup [nv x, nv y])) d = some (.dK (natKV (pairs (rs.take i) ++ (nxt r).take j))) := by rw [upd_ne dT2]; exact h5
        have hno : valV (natKV (pairs (rs.take i) ++ (nxt r).take j)) (Sum.inl (x : Int)) = none := natKV_none (not_before hnd hr' hx)
        refine ⟨T2, _, rfl, SqT.of upd_same, rfl, _, _, rfl, _, _, rfl, rfl, ?_⟩
        -- the test
        refine ⟨_, rfl, _, _, rfl, rfl, _, rfl, decF (by omega) ?_⟩
        refine ⟨_, rfl, _, rfl, d, none, rfl, .inl ⟨_, _, .of h5', rfl, hno.symm⟩, _, rfl, iteF ?_⟩
        have fin : ∀ D : Ends, D.nx = (fun σ H' => ∃ v5 v6 : Option V, σ = [some (.ref a), some z, some (.ref d), some (V.int (i : Nat)), some (.ref b), v5, v6] ∧ Same H H' ∧ H' p3 = some (.lst ((rot r).map nv)) ∧ H' d = some (.dK (natKV (pairs (rs.take i) ++ (nxt r).take (j + 1))))) →
            sDPut (tVar 2) (tVar 5) (tVar 6) D [some (.ref a), some z, some (.ref d), some (V.int (i : Nat)), some (.ref b), some (nv x), some (nv y)] (upd H3 T2 (.tup [nv x, nv y])) := fun D hD => by
          refine ⟨_, rfl, _, rfl, _, rfl, d, _, rfl, DPut.k (k := Sum.inl (x : Int)) h5' ?_, ?_⟩
          · rw [natKV_len, List.length_append, List.length_take]
            refine small64 ?_
            have h3 := pairs_take_len rs (i + 1)
            rw [pairs_snoc hr', List.length_append] at h3
            omega
          · rw [hD]
            have p3T : p3 ≠ T2 := ne_of_none h4 nT2
            have dp3' : p3 ≠ d := dp3.symm
            refine ⟨_, _, rfl, mutS (mutS s4 (s4.free nT2)) nd, by rw [upd_ne dp3', upd_ne p3T]; exact h4, ?_⟩
            rw [upd_same, putK_new _ hno, take_snoc (nxt_get hx hy), ← List.append_assoc, natKV_append (_ ++ _)]
            rfl
        rcases hz with rfl | ⟨n, rfl, hn⟩
        · exact ⟨_, rfl, rfl, _, rfl, iteF (iteF (fin _ rfl))⟩
        · have hxn : x < n := hn x (List.mem_flatten.mpr ⟨r, List.mem_of_getElem? hr', List.mem_of_getElem? hx⟩)
          refine ⟨_, rfl, rfl, _, rfl, iteT ⟨_, rfl, _, rfl, _, _, rfl, rfl, _, rfl, decF (by omega) (fin _ rfl)⟩⟩
      · rintro σ H3 ⟨v5, v6, rfl, s4, h4, h5⟩
        refine ⟨_, _, v5, v6, rfl, s4, ?_⟩
        have et : (nxt r).take r.length = nxt r := List.take_of_length_le (by rw [nxt_len]; exact Nat.le_refl _)
        rw [h5, pairs_snoc hr', et]
    · rintro σ H1 ⟨v3, v4, v5, v6, rfl, s2, hd⟩
      refine ⟨_, rfl, q d H1 s2 nd ?_⟩
      rw [hd, List.length_map, hg.len, List.take_length]
end
section
variable {P : Program} {w : World} {K : PySem.W.Frag} {mg : Str → Option Value} {base : Heap}
/-! ### rings_of -/
abbrev s_rings_of : Stmt := top 14
theorem sc_rings_of : FnScope ["moves", "rings", "seen", "first", "ring", "place"] ["moves"] (defScope s_rings_of) := ⟨rfl, rfl, rfl, by decide +kernel, rfl, by decide +kernel, by decide +kernel⟩

/-- the places xs, each once, below n; f leads them, and stays elsewhere -/
structure Moves (f : Nat → Nat) (n : Nat) (ks : List Nat) : Prop where
  perm : PermF f n
  nd : ks.Nodup
  lt : ∀ k ∈ ks, k < n
  all : ∀ x, x < n → f x ≠ x → x ∈ ks
  cl : ∀ k ∈ ks, f k ∈ ks
  few : ks.length < 64
  small : ks.length * n ≤ 4000
def spRingsOf : Sp := fun vs H Q _ => ∃ (d : Addr) (f : Nat → Nat) (n : Nat) (ks : List Nat), vs = [.ref d] ∧ H d = some (.dK (natKV (graph f ks))) ∧ Moves f n ks ∧
  ∀ (o : Addr) (as : List Addr) (H' : Hp), Same H H' → H o = none → (∀ a ∈ as, H a = none) → o ∉ as → as.Nodup → H' o = some (.lst (as.map V.ref)) → Rg H' as (rings f n) → Q (.ref o) H'
theorem it_in {f : Nat → Nat} {n : Nat} {ks : List Nat} (M : Moves f n ks) {y : Nat} (h : y ∈ ks) : ∀ j, it f j y ∈ ks
  | 0 => h
  | j + 1 => M.cl _ (it_in M h j)
theorem ok_rings_of {f : Addr} {fd : FuncData} (F : Fun K "rings_of" "rings_of" s_rings_of f fd) (T : Blt mg) : FnOk P w K mg base CX0 1 f fd ["moves"] spRingsOf := by
  refine F.ok sc_rings_of (fun vs H Q E h => ?_) (fun cdv A outer s H vs Q E hr h => ?_)
  · obtain ⟨d, f, n, ks, rfl, _⟩ := h; rfl
  · obtain ⟨d, f, n, ks, rfl, hd, M, q⟩ := h
    have PF := M.perm
    have hu := hu_of hr
    have get : ∀ {H' : Hp}, Same H H' → ∀ y, y ∈ ks → DGet H' d (V.int (y : Int)) (some (nv (f y))) := fun s y hy =>
      .inl ⟨_, Sum.inl (y : Int), .of (s _ _ hd), rfl, by rw [graph_get M.nd, if_pos hy]⟩
    refine ⟨_, (pss_cons (ps_set (i := 1) sc_rings_of.nd rfl (.inl rfl) (pe_lst pa_nil))
    (pss_cons (ps_set (i := 2) sc_rings_of.nd rfl (.inl rfl) (pe_callTy0 cr_set0 (by rfl) T.set (by decide +kernel)))
    (pss_cons (ps_for PassesOwn.never rfl (pi_list (pe_callB (call_sortedDI rfl) (by rfl) T.sorted (by decide +kernel) (pa_cons (pv 0) pa_nil))) (pg_name (i := 3) sc_rings_of.nd rfl (.inl rfl)) (pss_cons (ps_if (PW.pt (pw_or (pt_cmpR or_sin (pv 3) (pv 2) rfl) (pw_or1 (pt_cmpR op_eq (pe_dget hu (pv 0) (pv 3) (fun _ _ => rfl)) (pv 3) (nomark _))))) (pss_one ps_continue) pss_nil)
    (pss_cons (ps_set (i := 4) sc_rings_of.nd rfl (.inl rfl) (pe_lst (pa_cons (pv 3) pa_nil)))
    (pss_cons (ps_set (i := 5) sc_rings_of.nd rfl (.inl rfl) (pe_dget hu (pv 0) (pv 3) (fun _ _ => rfl)))
    (pss_cons (ps_while PassesOwn.never (pt_cmpR op_ne (pv 5) (pv 3) (nomark _)) (pss_cons (ps_expr (pe_bm PySem.F.plainAttrs_list PySem.F.slot_list_append PySem.F.type_list_append mt_append (pv 4) (pa_cons (pv 5) pa_nil)))
    (pss_cons (ps_expr (pe_sadd (pv 2) (pa_cons (pv 5) pa_nil)))
    (pss_one (ps_set (i := 5) sc_rings_of.nd rfl (.inl rfl) (pe_dget hu (pv 0) (pv 5) (fun _ _ => rfl)))))))
    (pss_one (ps_expr (pe_bm PySem.F.plainAttrs_list PySem.F.slot_list_append PySem.F.type_list_append mt_append (pv 1) (pa_cons (pv 4) pa_nil)))))))))
    (pss_one (ps_ret (pv 1)))))), ?_⟩
    -- rings = []; seen = set()
    refine ⟨Nat.zero_le _, fun o no => ⟨rfl, fun e ne => ?_⟩⟩
    have s1 : Same H (upd H o (.lst [])) := same_upd no
    have s2 : Same H (upd (upd H o (.lst [])) e (SetO w e (fun _ => false) 0)) := s1.trans (same_upd ne)
    have noe : o ≠ e := ne_of_none (H := upd H o (.lst [])) upd_same ne
    -- sorted(moves)
    refine ⟨_, rfl, d, _, ks.map fun (k : Nat) => (k : Int), rfl, .of (s2 _ _ hd), ?_, by rw [List.length_map]; exact M.few, fun ys p hp hs np => ?_⟩
    · unfold natKV graph
      rw [List.map_map, List.map_map, List.map_map]
      rfl
    obtain ⟨zs, rfl, zp, zs1⟩ := perm_nat hp hs M.nd
    have zlt : ∀ y ∈ zs, y < n := fun y hy => M.lt y (zp.mem_iff.mp hy)
    have zall : ∀ x, x < n → f x ≠ x → x ∈ zs := fun x h1 h2 => zp.mem_iff.mpr (M.all x h1 h2)
    have zlen : zs.length = ks.length := zp.length_eq
    have em : (zs.map fun (k : Nat) => (k : Int)).map V.int = zs.map nv := by rw [List.map_map]; rfl
    rw [em] at *
    have nop : o ≠ p := ne_of_none (H := upd (upd H o (.lst [])) e _) (by rw [upd_ne noe]; exact upd_same) np
    have nep : e ≠ p := ne_of_none (H := upd (upd H o (.lst [])) e _) upd_same np
    have ne' : H e = none := s1.free ne
    have np' : H p = none := s2.free np
    refine ⟨p, rfl, ⟨_, SqL.of upd_same⟩, for_list (K := K) (a := p) (xs := zs.map nv) (fun i σ H1 => ∃ (v3 v4 v5 : Option V) (S : Int → Bool) (c : Nat) (as : List Addr), σ = [some (.ref d), some (.ref o), some (.ref e), v3, v4, v5] ∧ Same H H1 ∧
        H1 p = some (.lst (zs.map nv)) ∧ H1 e = some (SetO w e S c) ∧ (∀ x : Nat, S (x : Int) = true ↔ Marked f n (zs.take i) x) ∧ c ≤ i * n ∧
        H1 o = some (.lst (as.map V.ref)) ∧ Rg H1 as (ringsIn f n (zs.take i)) ∧ o ∉ as ∧ as.Nodup ∧ (∀ a ∈ as, H a = none))
      ⟨none, none, none, fun _ => false, 0, [], rfl, s2.trans (same_upd np), upd_same, by rw [upd_ne nep]; exact upd_same, fun x => ⟨fun h => by simp at h, fun ⟨q, h, _⟩ => by simp at h⟩, Nat.zero_le _, by rw [upd_ne nop, upd_ne noe, upd_same]; rfl, Rg.nil, by simp, by simp, by simp⟩
      (fun i σ H1 _ ⟨_, _, _, _, _, _, _, _, h, _⟩ => SqL.of h) ?_ ?_⟩
    · rintro i yy σ H1 hi ⟨v3, v4, v5, S, c, as, rfl, s3, h1, h2, hS, hc, ho, hg, hoa, hnd, hfr⟩
      obtain ⟨y, hy, rfl⟩ := of_nv_get hi
      have hyz : y ∈ zs := List.mem_of_getElem? hy
      have hyk : y ∈ ks := zp.mem_iff.mp hyz
      have hyn : y < n := zlt y hyz
      have hil : i < zs.length := (List.getElem?_eq_some_iff.mp hy).1
      have ml := marked_iff PF zs1 zlt zall hy
      -- first in seen
      refine ⟨_, rfl, _, rfl, (y : Int), e, S, c, rfl, rfl, h2, _, rfl, ?_⟩
      have stay : headB f n y = false → ∃ (u3 u4 u5 : Option V) (S : Int → Bool) (c : Nat) (as : List Addr), ([some (.ref d), some (.ref o), some (.ref e), some (nv y), v4, v5] : L2.St) = [some (.ref d), some (.ref o), some (.ref e), u3, u4, u5] ∧ Same H H1 ∧
          H1 p = some (.lst (zs.map nv)) ∧ H1 e = some (SetO w e S c) ∧ (∀ x : Nat, S (x : Int) = true ↔ Marked f n (zs.take (i + 1)) x) ∧ c ≤ (i + 1) * n ∧
          H1 o = some (.lst (as.map V.ref)) ∧ Rg H1 as (ringsIn f n (zs.take (i + 1))) ∧ o ∉ as ∧ as.Nodup ∧ (∀ a ∈ as, H a = none) := fun hb =>
        ⟨_, v4, v5, S, c, as, rfl, s3, h1, h2, fun x => (hS x).trans (marked_stay hy hb x).symm, by rw [Nat.succ_mul]; omega, ho, by rw [ringsIn_stay hy hb]; exact hg, hoa, hnd, hfr⟩
      by_cases cs : S (y : Int) = true
      · rw [cs]
        refine iteT (iteT ?_)
        have l0 := ml.mp ((hS y).mp cs)
        obtain ⟨w3, w4, w5, S1, c1, as1, q1, q2⟩ := stay (by unfold headB; rw [l0]; rfl)
        exact ⟨w3, w4, w5, S1, c1, as1, q1, q2⟩
      · have cs' : S (y : Int) = false := by simpa using cs
        rw [cs']
        refine iteF ?_
        have l1 : lead f n y = true := by
          cases z : lead f n y with
          | true => rfl
          | false => exact absurd ((hS y).mpr (ml.mpr z)) cs
        refine ⟨_, rfl, _, rfl, d, _, rfl, get s3 y hyk, _, rfl, rfl, _, rfl, ?_⟩
        by_cases cf : f y = y
        · refine decT (by rw [cf]) ?_
          obtain ⟨w3, w4, w5, S1, c1, as1, q1, q2⟩ := stay (by unfold headB; rw [cf]; simp)
          exact ⟨w3, w4, w5, S1, c1, as1, q1, q2⟩
        refine decF (fun z => cf (by have := V.int.inj z; omega)) ?_
        have hb : headB f n y = true := headB_iff.mpr ⟨l1, cf⟩
        obtain ⟨p0, pe, pl, _⟩ := per_spec PF hyn
        have p1 : per f n y ≠ 1 := fun z => cf ((per_one PF hyn).mp z)
        -- ring = [first]; place = moves[first]
        refine ⟨_, rfl, by show 1 ≤ sizeLine; decide, fun r nr => ?_⟩
        have nro : o ≠ r := ne_of_none ho nr
        have nre : e ≠ r := ne_of_none h2 nr
        have nrp : p ≠ r := ne_of_none h1 nr
        have hrn : H r = none := s3.free nr
        have hra : r ∉ as := fun hm => by
          obtain ⟨z, hz⟩ := hg.know hm
          rw [hz] at nr
          cases nr
        have hea : e ∉ as := fun hm => by
          obtain ⟨z, hz⟩ := hg.know hm
          rw [hz] at h2
          cases h2
        have s4 : Same H (upd H1 r (.lst [nv y])) := mutS s3 hrn
        refine ⟨_, rfl, _, rfl, d, _, rfl, get s4 y hyk, ?_⟩
        -- while place != first
        have bnd : (i + 1) * n ≤ 4000 := Nat.le_trans (Nat.mul_le_mul_right n (by omega)) M.small
        refine ⟨fun m σ H2 => ∃ (j : Nat) (S' : Int → Bool) (c' : Nat), j < per f n y ∧ m = per f n y - (j + 1) ∧ σ = [some (.ref d), some (.ref o), some (.ref e), some (nv y), some (.ref r), some (nv (it f (j + 1) y))] ∧ Same H H2 ∧
            H2 p = some (.lst (zs.map nv)) ∧ H2 e = some (SetO w e S' c') ∧ (∀ x : Nat, S' (x : Int) = true ↔ (S (x : Int) = true ∨ ∃ k, 1 ≤ k ∧ k < j + 1 ∧ x = it f k y)) ∧ c' ≤ i * n + j ∧
            H2 r = some (.lst ((pref f y (j + 1)).map nv)) ∧ H2 o = some (.lst (as.map V.ref)) ∧ Rg H2 as (ringsIn f n (zs.take i)), ⟨_, 0, S, c, p0, rfl, rfl, s4, by rw [upd_ne nrp]; exact h1, by rw [upd_ne nre]; exact h2, fun x => ⟨fun h => .inl h, fun h => h.elim id fun ⟨k, k1, k2, _⟩ => by omega⟩, hc, upd_same, by rw [upd_ne nro]; exact ho, hg.upd hra⟩, ?_⟩
        rintro m σ H2 ⟨j, S', c', hj, rfl, rfl, t3, t1, t2, tS, tc, tr, to, tg⟩
        have hlt : it f j y < n := PF.it_lt j hyn
        refine ⟨_, rfl, _, rfl, rfl, _, rfl, ?_⟩
        by_cases cb : it f (j + 1) y = y
        · have ej := (back_iff PF hyn hj).mp cb
          rw [cb, decide_eq_true rfl]
          refine iteF ?_
          have eR : pref f y (j + 1) = ring f n y := by rw [ej]; rfl
          rw [eR] at tr
          -- rings.append(ring)
          refine ⟨_, rfl, .inl ⟨rfl, _, SqL.of to⟩, _, rfl, o, _, _, rfl, rfl, to, small64 (by rw [List.length_map, tg.len]; have := ringsIn_len f n (zs.take i); rw [List.length_take] at this; have := M.few; omega), ?_⟩
          have nop' : p ≠ o := nop.symm
          have noe' : e ≠ o := noe.symm
          refine ⟨_, _, _, S', c', as ++ [r], rfl, mutS t3 no, by rw [upd_ne nop']; exact t1, by rw [upd_ne noe']; exact t2, fun x => ?_, ?_, by rw [upd_same, List.map_append]; rfl, ?_, ?_, nd_snoc hnd hra, ?_⟩
          · rw [tS x, hS x, marked_more hy hb x, ring_tail PF hyn, ← ej]
          · rw [Nat.succ_mul]; omega
          · rw [ringsIn_more hy hb]
            exact (tg.upd hoa).snoc (by rw [upd_ne nro.symm]; exact tr)
          · rw [List.mem_append, not_or]
            exact ⟨hoa, fun h => nro (List.mem_singleton.mp h)⟩
          · intro b hb'
            rcases List.mem_append.mp hb' with h | h
            · exact hfr b h
            · rw [List.mem_singleton.mp h]; exact hrn
        · have ej : j + 1 ≠ per f n y := fun z => cb ((back_iff PF hyn hj).mpr z)
          have hk1 : it f (j + 1) y ∈ ks := it_in M hyk (j + 1)
          have hin : i * n + n ≤ 4000 := by rw [← Nat.succ_mul]; exact bnd
          rw [decide_eq_false (fun z => cb (by have := V.int.inj z; omega))]
          refine iteT ⟨fun σ' H' => ∃ (S' : Int → Bool) (c' : Nat), σ' = [some (.ref d), some (.ref o), some (.ref e), some (nv y), some (.ref r), some (nv (it f (j + 1 + 1) y))] ∧ Same H H' ∧
            H' p = some (.lst (zs.map nv)) ∧ H' e = some (SetO w e S' c') ∧ (∀ x : Nat, S' (x : Int) = true ↔ (S (x : Int) = true ∨ ∃ k, 1 ≤ k ∧ k < j + 1 + 1 ∧ x = it f k y)) ∧ c' ≤ i * n + (j + 1) ∧
            H' r = some (.lst ((pref f y (j + 1 + 1)).map nv)) ∧ H' o = some (.lst (as.map V.ref)) ∧ Rg H' as (ringsIn f n (zs.take i)), fun σ' H' ⟨S2, c2, h⟩ => ⟨per f n y - (j + 1 + 1), by omega, j + 1, S2, c2, by omega, rfl, h⟩, ?_⟩
          -- ring.append(place); seen.add(place); place = moves[place]
          refine ⟨_, rfl, .inl ⟨rfl, _, SqL.of tr⟩, _, rfl, r, _, _, rfl, rfl, tr, small64 (by rw [List.length_map, pref_len]; omega), ?_⟩
          have u2 : (upd H2 r (.lst ((pref f y (j + 1)).map nv ++ [nv (it f (j + 1) y)]))) e = some (SetO w e S' c') := by rw [upd_ne nre]; exact t2
          refine ⟨_, rfl, ⟨e, S', c', rfl, u2⟩, _, rfl, e, _, S', c', rfl, rfl, u2, by show c' + 1 < 4096; omega, ?_⟩
          have s5 : Same H (upd (upd H2 r (.lst ((pref f y (j + 1)).map nv ++ [nv (it f (j + 1) y)]))) e (SetO w e (fun k => S' k || decide (k = ((it f (j + 1) y : Nat) : Int))) (if S' ((it f (j + 1) y : Nat) : Int) = true then c' else c' + 1))) := mutS (mutS t3 hrn) ne'
          refine ⟨_, rfl, _, rfl, d, _, rfl, get s5 _ hk1, ?_⟩
          refine ⟨_, _, rfl, s5, by rw [upd_ne nep.symm, upd_ne nrp]; exact t1, upd_same, fun x => ?_, by split <;> omega, by rw [upd_ne nre.symm, upd_same, pref_succ f y (j + 1), List.map_append]; rfl, by rw [upd_ne noe, upd_ne nro]; exact to, (tg.upd hra).upd hea⟩
          rw [Bool.or_eq_true, decide_eq_true_eq, tS x]
          constructor
          · rintro ((h | ⟨k, k1, k2, e1⟩) | h)
            · exact .inl h
            · exact .inr ⟨k, k1, by omega, e1⟩
            · exact .inr ⟨j + 1, by omega, by omega, by omega⟩
          · rintro (h | ⟨k, k1, k2, e1⟩)
            · exact .inl (.inl h)
            · by_cases ck : k = j + 1
              · subst ck; exact .inr (by rw [e1])
              · exact .inl (.inr ⟨k, k1, by omega, e1⟩)
    · rintro σ H1 ⟨v3, v4, v5, S, c, as, rfl, s3, h1, h2, hS, hc, ho, hg, hoa, hnd, hfr⟩
      rw [List.length_map, List.take_length, ringsIn_all zs1 zlt zall] at hg
      exact ⟨_, rfl, q o as H1 s3 no hfr hoa hnd ho hg⟩
end
/-! ### wires -/
/-- a wire's two attributes -/
def wF (n : Nat) (l : Addr) : List (Str × V) := [("size", nv n), ("_images", .ref l)]
theorem lk1 {k : Str} {v : V} {r : List (Str × V)} : List.lookup k ((k, v) :: r) = some v := by simp only [List.lookup, beq_self_eq_true k]
theorem lk2 {k g : Str} {v : V} {r : List (Str × V)} (h : (k == g) = false) : List.lookup k ((g, v) :: r) = List.lookup k r := by simp only [List.lookup, h]
theorem wF_size (n : Nat) (l : Addr) : (wF n l).lookup ("size" : Str) = some (nv n) := lk1
theorem wF_im (n : Nat) (l : Addr) : (wF n l).lookup ("_images" : Str) = some (.ref l) := (lk2 (by decide +kernel)).trans lk1
theorem wF_no (n : Nat) (l : Addr) {m : Str} (h1 : (m == ("size" : Str)) = false) (h2 : (m == ("_images" : Str)) = false) : (wF n l).lookup m = none := (lk2 h1).trans (lk2 h2)
theorem wF_new (n : Nat) (l : Addr) : putF "_images" (.ref l) (putF "size" (nv n) []) = wF n l := by
  show putF "_images" (V.ref l) [(("size" : Str), nv n)] = _
  show (if (("size" : Str) = "_images") then _ else (("size" : Str), nv n) :: putF "_images" (V.ref l) []) = wF n l
  rw [if_neg (by decide +kernel)]
  rfl
/-- the wire with the images im, its list at l -/
def WireL (C : Addr) (H : Hp) (a l : Addr) (im : List Nat) : Prop := (∃ dx, H a = some (.ins C dx (wF im.length l))) ∧ H l = some (.lst (im.map nv))
def WireAt (C : Addr) (H : Hp) (a : Addr) (im : List Nat) : Prop := ∃ l, WireL C H a l im
theorem WireAt.mono {C : Addr} {H H' : Hp} {a : Addr} {im : List Nat} (x : WireAt C H a im) (s : Same H H') : WireAt C H' a im := by
  obtain ⟨l, ⟨dx, h1⟩, h2⟩ := x
  exact ⟨l, ⟨dx, s _ _ h1⟩, s _ _ h2⟩
/-- the class as the walk asks of it -/
structure WTxt (K : PySem.W.Frag) (C : Addr) : Prop where
  cl : Cls K C
  nS : NoAttr K C "size"
  nI : NoAttr K C "_images"
theorem enum_graph (im : List Nat) : mergeK [] (enumKV 0 (im.map nv)) = natKV (graph (ap im) (List.range im.length)) := by
  have key : ∀ (l : List (Nat × Nat)) (g : List (Nat × Nat)), ((g ++ l).map Prod.fst).Nodup → mergeK (natKV g) (natKV l) = natKV (g ++ l) := by
    intro l
    induction l with
    | nil => intro g _; rw [List.append_nil]; rfl
    | cons p l ih =>
      intro g hn
      have h1 : p.1 ∉ g.map Prod.fst := by
        rw [List.map_append] at hn
        intro hm
        exact (List.nodup_append.mp hn).2.2 _ hm _ List.mem_cons_self rfl
      show mergeK (putK (natKV g) (Sum.inl (p.1 : Int)) (nv p.2)) (natKV l) = _
      rw [putK_new _ (natKV_none h1)]
      have e : natKV g ++ [(Sum.inl (p.1 : Int), nv p.2)] = natKV (g ++ [p]) := by rw [natKV_append]; rfl
      rw [e, ih (g ++ [p]) (by rw [List.append_assoc]; exact hn), List.append_assoc]
      rfl
  have e : enumKV 0 (im.map nv) = natKV (graph (ap im) (List.range im.length)) := by
    apply List.ext_getElem?
    intro i
    rw [enumKV_get, natKV, graph, List.getElem?_map, List.getElem?_map, List.getElem?_map, Nat.zero_add]
    by_cases c : i < im.length
    · rw [List.getElem?_range c, ap_get c]; rfl
    · rw [List.getElem?_eq_none (show im.length ≤ i by omega), List.getElem?_eq_none (show (List.range im.length).length ≤ i by rw [List.length_range]; omega)]; rfl
  rw [e]
  have := key (graph (ap im) (List.range im.length)) [] (by rw [List.nil_append, graph_fst]; exact List.nodup_range)
  rw [List.nil_append] at this
  exact this
theorem moves_of_perm {im : List Nat} (hI : IsPerm im) (hn : im.length ≤ 60) : Moves (ap im) im.length (List.range im.length) where
  perm := hI.perm
  nd := List.nodup_range
  lt k h := List.mem_range.mp h
  all x h _ := List.mem_range.mpr h
  cl k h := List.mem_range.mpr (hI.perm.lt k (List.mem_range.mp h))
  few := by rw [List.length_range]; omega
  small := by
    rw [List.length_range]
    exact Nat.le_trans (Nat.mul_le_mul hn hn) (by decide)
section
variable {P : Program} {w : World} {K : PySem.W.Frag} {mg : Str → Option Value} {base : Heap} {C : Addr}
/-! ### Wire.__init__ -/
abbrev s_Wire_init : Stmt := inClass (top 11) 0
theorem sc_Wire_init : FnScope ["self", "size", "rings", "moves", "place"] ["self", "size", "rings"] (defScope s_Wire_init) := ⟨rfl, rfl, rfl, by decide +kernel, rfl, by decide +kernel, by decide +kernel⟩

/-- rings that f leads on; f stays elsewhere -/
structure RingsOf (f : Nat → Nat) (n : Nat) (rs : List (List Nat)) : Prop where
  ne : ∀ r ∈ rs, r ≠ []
  nd : rs.flatten.Nodup
  lt : ∀ x ∈ rs.flatten, x < n
  fol : ∀ r ∈ rs, Follows f r
  stay : ∀ x, x < n → x ∉ rs.flatten → f x = x
theorem RingsOf.few {f : Nat → Nat} {n : Nat} {rs : List (List Nat)} (R : RingsOf f n rs) : rs.flatten.length ≤ n := nodup_le n _ R.nd R.lt
theorem ringsOf_perm {f : Nat → Nat} {n : Nat} (P : PermF f n) : RingsOf f n (rings f n) :=
  ⟨fun _ h => rings_ne P h, rings_nodup P, fun _ h => rings_lt P h, fun _ h => rings_follow P h, fun _ h1 h2 => rings_stay P h1 h2⟩
def spInit (K : PySem.W.Frag) (C : Addr) : Sp := fun vs H Q _ => ∃ (p dx a : Addr) (n : Nat) (f : Nat → Nat) (as : List Addr) (rs : List (List Nat)), vs = [.ref p, nv n, .ref a] ∧ H p = some (.ins C dx []) ∧ SqL K H a (as.map V.ref) ∧ Rg H as rs ∧ RingsOf f n rs ∧ 1 ≤ n ∧ n ≤ 1000 ∧
  ∀ (l : Addr) (H' : Hp), (∀ b o, H b = some o → b ≠ p → H' b = some o) → H l = none → H' p = some (.ins C dx (wF n l)) → H' l = some (.lst (((List.range n).map f).map nv)) → Q .non H'
theorem ok_Wire_init {f : Addr} {fd : FuncData} (F : Fun K "__init__" "Wire.__init__" s_Wire_init f fd) (T : Blt mg) (W : WTxt K C) (D_moves_of : DefOk P w K mg base CX0 1 "moves_of" ["rings", "size"] [] (spMoves K)) :
    FnOk P w K mg base CX0 2 f fd ["self", "size", "rings"] (spInit K C) := by
  refine F.ok sc_Wire_init (fun vs H Q E h => ?_) (fun cdv A outer s H vs Q E hr h => ?_)
  · obtain ⟨p, dx, a, n, f, as, rs, rfl, _⟩ := h; rfl
  · obtain ⟨p, dx, a, n, f, as, rs, rfl, hp, hS, hg, R, n1, n2, q⟩ := h
    have hu := hu_of hr
    refine ⟨_, (pss_cons (ps_if (pt_cmpR op_lt (pv 1) pe_int (nomark _)) pss_never pss_nil)
    (pss_cons (ps_set (i := 3) sc_Wire_init.nd rfl (.inr rfl) (pe_d D_moves_of hr pass0 (pa_cons (pv 2) (pa_cons (pv 1) pa_nil))))
    (pss_cons (ps_fld (pv 0) (pv 1) rfl)
    (pss_one (ps_fld (pv 0) (pe_lc (own := [("place", 4)]) (tt := tYes) rfl sc_Wire_init.nd (pi_range1 (by rfl) T.range (pa_cons (pv 1) pa_nil)) (blkOk_by (N := ["self", "size", "rings", "moves", "place"]) (sc := defScope s_Wire_init) (by decide +kernel)) (fun _ _ _ _ _ => (pg_name (i := 4) sc_Wire_init.nd rfl (.inl rfl))) (fun _ _ _ _ _ => pts_nil) (fun _ _ _ _ _ => by exact (pe_dget2 hu (pv 3) (pv 4) (pv 4) ⟨rfl, rfl, rfl, rfl⟩))) rfl))))), ?_⟩
    refine ⟨_, rfl, _, _, rfl, rfl, _, rfl, decF (by omega) ?_⟩
    -- moves = moves_of(rings, size)
    refine ⟨_, rfl, _, rfl, a, nv n, as, rs, rfl, hS, hg, .inr ⟨n, rfl, R.lt⟩, R.ne, R.nd, Nat.le_trans R.few n2, fun d H1 s1 nd hd => ?_⟩
    rw [pairs_follow R.fol] at hd
    have hp1 := s1 _ _ hp
    -- self.size = size
    refine ⟨_, rfl, _, rfl, p, C, dx, [], rfl, hp1, W.cl, W.nS, (by show 0 < 1000; decide), ?_⟩
    have ndp : d ≠ p := fun e => by rw [e, hp] at nd; cases nd
    -- self._images = [..]
    refine ⟨_, rfl, _, rfl, by omega, by omega, fun l nl => ?_⟩
    rw [Int.toNat_natCast]
    have npl : p ≠ l := ne_of_none (H := upd H1 p _) upd_same nl
    have hl0 : H l = none := by
      cases z : H l with
      | none => rfl
      | some o =>
        rw [upd_ne npl.symm, s1 _ _ z] at nl
        cases nl
    refine lc_range (lo := 0) (n := n) (fun i H2 => Same (upd H1 p (.ins C dx (putF "size" (nv n) []))) H2 ∧ H2 l = some (.lst (((List.range i).map f).map nv))) ⟨same_upd nl, upd_same⟩ ?_ ?_
    · rintro i H2 hi ⟨s2, hl⟩
      rw [Int.zero_add]
      refine ⟨rfl, ?_⟩
      refine yesT ?_
      have hd2 : H2 d = some (.dK (natKV (graph f rs.flatten))) := s2 _ _ (by rw [upd_ne ndp]; exact hd)
      refine ⟨_, rfl, d, rfl, .inl ⟨_, .of hd2⟩, _, rfl, _, rfl, _, .inl ⟨_, Sum.inl (i : Int), .of hd2, rfl, rfl⟩, _, hl, small64 (by rw [List.length_map, List.length_map, List.length_range]; omega), mutS s2 nl, ?_⟩
      rw [upd_same, graph_get R.nd, List.range_succ, List.map_append, List.map_append]
      by_cases c : i ∈ rs.flatten
      · rw [if_pos c]; rfl
      · rw [if_neg c]
        show _ = some (HO.lst (((List.range i).map f).map nv ++ [nv (f i)]))
        rw [R.stay i hi c]
        rfl
    · rintro H2 ⟨s2, hl⟩
      refine ⟨_, rfl, p, C, dx, _, rfl, s2 _ _ upd_same, W.cl, W.nI, (by show 1 < 1000; decide), ?_⟩
      refine q l _ (fun b o hb hbp => ?_) hl0 (by rw [upd_same, wF_new]) (by rw [upd_ne npl.symm]; exact hl)
      rw [upd_ne hbp]
      exact s2 _ _ (by rw [upd_ne hbp]; exact s1 _ _ hb)
/-! ### Wire.rings -/
abbrev s_Wire_rings : Stmt := inClass (top 11) 3
theorem sc_Wire_rings : FnScope ["self"] ["self"] (defScope s_Wire_rings) := ⟨rfl, rfl, rfl, by decide +kernel, rfl, by decide +kernel, by decide +kernel⟩

def spWRings (C : Addr) : Sp := fun vs H Q _ => ∃ (a : Addr) (im : List Nat), vs = [.ref a] ∧ WireAt C H a im ∧ IsPerm im ∧ im.length ≤ 60 ∧
  ∀ (o : Addr) (as : List Addr) (H' : Hp), Same H H' → H o = none → (∀ a ∈ as, H a = none) → o ∉ as → as.Nodup → H' o = some (.lst (as.map V.ref)) → Rg H' as (rings (ap im) im.length) → Q (.ref o) H'
theorem ok_Wire_rings {f : Addr} {fd : FuncData} (F : Fun K "rings" "Wire.rings" s_Wire_rings f fd) (T : Blt mg) (W : WTxt K C) (D_rings_of : DefOk P w K mg base CX0 1 "rings_of" ["moves"] [] spRingsOf) :
    FnOk P w K mg base CX0 2 f fd ["self"] (spWRings C) := by
  refine F.ok sc_Wire_rings (fun vs H Q E h => ?_) (fun cdv A outer s H vs Q E hr h => ?_)
  · obtain ⟨a, im, rfl, _⟩ := h; rfl
  · obtain ⟨a, im, rfl, ⟨l, ⟨dx, h1⟩, h2⟩, hI, hn, q⟩ := h
    refine ⟨_, (pss_one (ps_ret (pe_d D_rings_of hr pass0 (pa_cons (pe_dictEnum rfl (by rfl) T.dict (by rfl) T.enumerate (pe_fld (pv 0) rfl)) pa_nil)))), ?_⟩
    refine ⟨_, rfl, a, C, dx, _, _, rfl, h1, W.cl, W.nI, wF_im _ _, l, _, rfl, SqL.of h2, fun d nd => ?_⟩
    rw [enum_graph]
    refine ⟨d, ap im, im.length, _, rfl, upd_same, moves_of_perm hI hn, fun o as H' s no nas hoa hnd ho hg => ?_⟩
    have s0 : Same H (upd H d (.dK (natKV (graph (ap im) (List.range im.length))))) := same_upd nd
    exact q o as H' (s0.trans s) (s0.free no) (fun b hb => s0.free (nas b hb)) hoa hnd ho hg
/-! ### Wire.order -/
abbrev s_Wire_order : Stmt := inClass (top 11) 5
theorem sc_Wire_order : FnScope ["self", "least", "ring"] ["self"] (defScope s_Wire_order) := ⟨rfl, rfl, rfl, by decide +kernel, rfl, by decide +kernel, by decide +kernel⟩

def spOrder (C : Addr) : Sp := fun vs H Q _ => ∃ (a : Addr) (im : List Nat), vs = [.ref a] ∧ WireAt C H a im ∧ IsPerm im ∧ im.length ≤ 60 ∧ ∀ H' : Hp, Same H H' → Q (nv (lcmTo (rings (ap im) im.length))) H'
theorem ok_Wire_order {f : Addr} {fd : FuncData} (F : Fun K "order" "Wire.order" s_Wire_order f fd) (B : Blt mg) (T : WTxt K C) (lcm : mg "lcm" = some (.builtin "math.lcm")) (D_Wire_rings : MethOk P w K mg base CX0 2 C "rings" ["self"] [] (spWRings C)) :
    FnOk P w K mg base CX0 3 f fd ["self"] (spOrder C) := by
  refine F.ok sc_Wire_order (fun vs H Q E h => ?_) (fun cdv A outer s H vs Q E hr h => ?_)
  · obtain ⟨a, im, rfl, _⟩ := h; rfl
  · obtain ⟨a, im, rfl, hW, hI, hn, q⟩ := h
    have P := hI.perm
    obtain ⟨l, ⟨dx, h1⟩, h2⟩ := id hW
    refine ⟨_, (pss_cons (ps_set (i := 1) sc_Wire_order.nd rfl (.inl rfl) pe_int)
      (pss_cons (ps_for PassesOwn.never rfl (pi_list (pe_m0 D_Wire_rings T.cl hr pass0 (pv 0))) (pg_name (i := 2) sc_Wire_order.nd rfl (.inl rfl)) (pss_one (ps_set (i := 1) sc_Wire_order.nd rfl (.inl rfl) (pe_callBfun cr_lcm (by rfl) lcm (pa_cons (pv 1) (pa_cons (pe_callB call_len_seq (by rfl) B.len PySem.boot_len (pa_cons (pv 2) pa_nil)) pa_nil))))))
      (pss_one (ps_ret (pv 1))))), ?_⟩
    refine ⟨_, rfl, a, dx, _, rfl, h1, wF_no _ _ (by decide +kernel) (by decide +kernel), a, im, rfl, hW, hI, hn, fun o as H1 s1 no nas hoa hnd ho hg => ?_⟩
    refine ⟨o, rfl, ⟨_, SqL.of ho⟩, for_list (K := K) (a := o) (xs := as.map V.ref) (fun i σ H2 => ∃ v2 : Option V, σ = [some (.ref a), some (nv (lcmTo ((rings (ap im) im.length).take i))), v2] ∧ H2 = H1) ⟨none, rfl, rfl⟩ (fun i σ H2 _ ⟨_, _, e⟩ => by rw [e]; exact SqL.of ho) ?_ ?_⟩
    · rintro i y σ H2 hi ⟨v2, rfl, rfl⟩
      obtain ⟨b, hb, rfl⟩ : ∃ b, as[i]? = some b ∧ y = V.ref b := by
        rw [List.getElem?_map] at hi
        cases e : as[i]? with
        | none => rw [e] at hi; cases hi
        | some b => rw [e] at hi; exact ⟨b, rfl, (Option.some.inj hi).symm⟩
      have hil : i < (rings (ap im) im.length).length := by rw [← hg.len]; exact (List.getElem?_eq_some_iff.mp hb).1
      obtain ⟨r, hr'⟩ : ∃ r, (rings (ap im) im.length)[i]? = some r := ⟨_, List.getElem?_eq_getElem hil⟩
      have hbr := hg.at_ i b r hb hr'
      have rlen : r.length ≤ im.length := by
        obtain ⟨p, hp, rfl⟩ := List.mem_map.mp (List.mem_of_getElem? hr')
        rw [ring_len]
        exact (per_spec P (mem_heads.mp hp).1).2.2.1
      refine ⟨_, rfl, _, rfl, b, _, rfl, .inl (SqL.of hbr), _, _, rfl, lcmTo_lt P hn i, ?_, ?_⟩
      · rw [List.length_map]; omega
      · refine ⟨some (V.ref b), ?_, rfl⟩
        rw [List.length_map, lcmTo_snoc hr']
        rfl
    · rintro σ H2 ⟨v2, rfl, rfl⟩
      rw [List.length_map, hg.len, List.take_length]
      exact ⟨_, rfl, q _ s1⟩
end
theorem dec_nv (a b : Nat) : decide (nv a = nv b) = decide (a = b) := by
  by_cases c : a = b
  · rw [decide_eq_true c, decide_eq_true (by rw [c])]
  · rw [decide_eq_false c, decide_eq_false (fun z => c (by have := V.int.inj z; omega))]
section
variable {P : Program} {w : World} {K : PySem.W.Frag} {mg : Str → Option Value} {base : Heap} {C : Addr}
/-! ### _law_wire -/
abbrev s_l_wire : Stmt := top 25
theorem sc_l_wire : FnScope ["_law_images"] ["_law_images"] (defScope s_l_wire) := ⟨rfl, rfl, rfl, by decide +kernel, rfl, by decide +kernel, by decide +kernel⟩

def spLWire (K : PySem.W.Frag) (C : Addr) : Sp := fun vs H Q _ => ∃ (a : Addr) (im : List Nat), vs = [.ref a] ∧ SqL K H a (im.map nv) ∧ IsPerm im ∧ 1 ≤ im.length ∧ im.length ≤ 100 ∧
  ∀ (x l : Addr) (H' : Hp), Same H H' → H x = none → H l = none → WireL C H' x l im → Q (.ref x) H'
theorem ok_l_wire {f : Addr} {fd : FuncData} (F : Fun K "_law_wire" "_law_wire" s_l_wire f fd) (T : Blt mg) (M_Wire : MakeOk P w K mg base CX0 2 C "Wire" ["self", "size", "rings"] [] (spInit K C)) (D_l_rings : DefOk P w K mg base CX0 1 "_law_rings" ["_law_images"] [] (spRings K)) :
    FnOk P w K mg base CX0 4 f fd ["_law_images"] (spLWire K C) := by
  refine F.ok sc_l_wire (fun vs H Q E h => ?_) (fun cdv A outer s H vs Q E hr h => ?_)
  · obtain ⟨a, im, rfl, _⟩ := h; rfl
  · obtain ⟨a, im, rfl, hS, hI, n1, n2, q⟩ := h
    have P := hI.perm
    refine ⟨_, (pss_one (ps_ret (pe_mk' M_Wire hr pass0 (pa_cons (pe_callB call_len_seq (by rfl) T.len PySem.boot_len (pa_cons (pv 0) pa_nil)) (pa_cons (pe_d D_l_rings hr pass0 (pa_cons (pv 0) pa_nil)) pa_nil))))), ?_⟩
    refine ⟨_, rfl, a, _, rfl, .inl hS, _, rfl, a, im, rfl, hS, hI, n2, fun o as H1 s1 no nas hoa hnd ho hg => ?_⟩
    intro x dx nx ndx nex
    have s2 : Same H1 (upd (upd H1 dx (.own x)) x (.ins C dx [])) := (same_upd ndx).trans (same_upd (by rw [upd_ne nex.symm]; exact nx))
    rw [List.length_map]
    refine ⟨x, dx, o, im.length, ap im, as, _, rfl, upd_same, SqL.of (s2 _ _ ho), hg.mono s2, ringsOf_perm P, n1, by omega, fun l H2 k nl hx hl => ⟨rfl, ?_⟩⟩
    have s3 : Same H1 H2 := Same.made nx ndx k
    rw [im_eq] at hl
    exact q x l H2 (s1.trans s3) (s1.free nx) ((s1.trans s2).free nl) ⟨⟨dx, hx⟩, hl⟩
/-! ### _law_of_kind -/
abbrev s_l_of_kind : Stmt := top 23
theorem sc_l_of_kind : FnScope ["_law_kind", "_law_bound", "_law_cell_here", "_law_n", "_law_draw", "_law_mixed", "_law_out", "_law_pairs", "_law_k"] ["_law_kind", "_law_bound", "_law_cell_here", "_law_n", "_law_draw"] (defScope s_l_of_kind) := ⟨rfl, rfl, rfl, by decide +kernel, rfl, by decide +kernel, by decide +kernel⟩

def spKind : Sp := fun vs H Q _ => ∃ (k : Str) (c : Int) (n d : Nat), vs = [.str k, .non, .int c, nv n, nv d] ∧ n ≤ 100 ∧
  ∀ (im : List Nat) (p : Addr) (H' : Hp), Same H H' → H p = none → H' p = some (.lst (im.map nv)) → IsPerm im → im.length = n → Q (.ref p) H'
theorem ok_l_of_kind {f : Addr} {fd : FuncData} (F : Fun K "_law_of_kind" "_law_of_kind" s_l_of_kind f fd) (T : Blt mg) (D_l_drawn : DefOk P w K mg base CX0 2 "_law_drawn" ["_law_cell_here", "_law_n"] [] spDrawn) :
    FnOk P w K mg base CX0 3 f fd ["_law_kind", "_law_bound", "_law_cell_here", "_law_n", "_law_draw"] spKind := by
  refine F.ok sc_l_of_kind (fun vs H Q E h => ?_) (fun cdv A outer s H vs Q E hr h => ?_)
  · obtain ⟨k, c, n, d, rfl, _⟩ := h; rfl
  · obtain ⟨k, c, n, d, rfl, hn, q⟩ := h
    refine ⟨_, (pss_cons (ps_set (i := 5) sc_l_of_kind.nd rfl (.inl rfl) (pe_d D_l_drawn hr pass0 (pa_cons (pv 2) (pa_cons (pv 3) pa_nil))))
    (pss_cons (ps_if (pt_cmpR op_eq (pv 0) pe_str (nomark _)) (pss_one (ps_ret (pv 5))) pss_nil)
    (pss_cons (ps_set (i := 6) sc_l_of_kind.nd rfl (.inl rfl) (pe_listRg rfl (by rfl) T.list (prg_1 (by rfl) T.range (pv 3))))
    (pss_cons (ps_set (i := 7) sc_l_of_kind.nd rfl (.inl rfl) (pe_op op_fdiv (pv 3) pe_int))
    (pss_cons (ps_if (pt_cmpR op_eq (pv 0) pe_str (nomark _)) (pss_cons (ps_set (i := 7) sc_l_of_kind.nd rfl (.inl rfl) (pe_op op_mod (pv 4) (pe_op op_add (pe_op op_fdiv (pv 3) pe_int) pe_int)))
    (pss_one (ps_if (PW.pt (pw_and (pt_cmpR op_notN (pv 1) pe_non (nomark _)) (pw_and1 (pt_cmpR op_gt (pv 7) (pv 1) (nomark _))))) (pss_one (ps_set (i := 7) sc_l_of_kind.nd rfl (.inl rfl) (pv 1))) pss_nil))) pss_nil)
    (pss_cons (ps_for PassesOwn.never rfl (pi_range1 (by rfl) T.range (pa_cons (pv 7) pa_nil)) (pg_name (i := 8) sc_l_of_kind.nd rfl (.inl rfl)) (pss_cons (ps_asg (pe_ix ix_list (pv 5) (pe_op op_add (pe_op op_mul pe_int (pv 8)) pe_int) (fun _ _ => rfl)) (pg_sub (pv 6) (pe_ix ix_list (pv 5) (pe_op op_mul pe_int (pv 8)) (fun _ _ => rfl)) set_list))
    (pss_one (ps_asg (pe_ix ix_list (pv 5) (pe_op op_mul pe_int (pv 8)) (fun _ _ => rfl)) (pg_sub (pv 6) (pe_ix ix_list (pv 5) (pe_op op_add (pe_op op_mul pe_int (pv 8)) pe_int) (fun _ _ => rfl)) set_list)))))
    (pss_one (ps_ret (pv 6))))))))), ?_⟩
    refine ⟨_, rfl, _, rfl, c, n, rfl, hn, fun mx m H1 s1 nm hm hI hl => ?_⟩
    refine ⟨_, rfl, rfl, _, rfl, ite2 (fun _ => ⟨_, rfl, q mx m H1 s1 nm hm hI hl⟩) (fun _ => ?_)⟩
    -- out = list(range(n)); pairs = n // 2
    refine ⟨_, rfl, _, rfl, ⟨by omega, by omega, by omega, by omega, by omega⟩, fun o no => ?_⟩
    rw [rgV_nat]
    have s2 : Same H (upd H1 o (.lst ((List.range n).map nv))) := s1.trans (same_upd no)
    have nmo : m ≠ o := ne_of_none hm no
    refine ⟨_, rfl, _, _, rfl, rfl, ⟨by decide, by decide⟩, ?_⟩
    -- the loop, for any number of pairs
    have loop : ∀ (pr : Nat) (D : Ends), pr ≤ n / 2 → D.rt = Q →
        tSeq (tFor (iRng1 (tCons (tVar 7) tNil)) (gName 8) (tSeq (tAsg (tOp (rIxL K) (tVar 5) (tOp (rI0 fun i j => .int (i + j)) (tOp (rI CMul fun i j => .int (i * j)) (tC (.int 2)) (tVar 8)) (tC (.int 1)))) (gSub (tVar 6) (tOp (rIxL K) (tVar 5) (tOp (rI CMul fun i j => .int (i * j)) (tC (.int 2)) (tVar 8))) rSetL))
          (tAsg (tOp (rIxL K) (tVar 5) (tOp (rI CMul fun i j => .int (i * j)) (tC (.int 2)) (tVar 8))) (gSub (tVar 6) (tOp (rIxL K) (tVar 5) (tOp (rI0 fun i j => .int (i + j)) (tOp (rI CMul fun i j => .int (i * j)) (tC (.int 2)) (tVar 8)) (tC (.int 1)))) rSetL)))) (tRet (tVar 6)) D
          [some (.str k), some .non, some (.int c), some (nv n), some (nv d), some (.ref m), some (.ref o), some (nv pr), none] (upd H1 o (.lst ((List.range n).map nv))) := fun pr D hpr hD => by
      refine ⟨_, rfl, (pr : Int), rfl, by omega, by omega, ?_⟩
      rw [Int.toNat_natCast]
      refine for_range (lo := 0) (n := pr) (fun i σ H2 => ∃ (v8 : Option V) (g : Nat → Nat), σ = [some (.str k), some .non, some (.int c), some (nv n), some (nv d), some (.ref m), some (.ref o), some (nv pr), v8] ∧ H2 = upd H1 o (.lst (((List.range n).map g).map nv)) ∧ Swp mx n i g)
        ⟨none, id, rfl, by rw [List.map_id], Swp.start⟩ ?_ ?_
      · rintro i σ H2 hi ⟨v8, g, rfl, rfl, S⟩
        rw [Int.zero_add]
        obtain ⟨a, ha⟩ : ∃ a, mx[2 * i]? = some a := ⟨_, List.getElem?_eq_getElem (by omega)⟩
        obtain ⟨b, hb⟩ : ∃ b, mx[2 * i + 1]? = some b := ⟨_, List.getElem?_eq_getElem (by omega)⟩
        have han : a < n := by rw [← hl]; exact hI.lt a (List.mem_of_getElem? ha)
        have hbn : b < n := by rw [← hl]; exact hI.lt b (List.mem_of_getElem? hb)
        have hM : ∀ z, SqL K (upd H1 o z) m (mx.map nv) := fun z => SqL.of (by rw [upd_ne nmo]; exact hm)
        have ea : atI (mx.map nv) (2 * (i : Int)) = some (nv a) := by
          rw [show (2 * (i : Int)) = ((2 * i : Nat) : Int) by omega]
          exact atI_nat (nv_get ha)
        have eb : atI (mx.map nv) (2 * (i : Int) + 1) = some (nv b) := by
          rw [show (2 * (i : Int) + 1) = ((2 * i + 1 : Nat) : Int) by omega]
          exact atI_nat (nv_get hb)
        have ix : ∀ (l : List V) (z : Nat), l.length = n → z < n → ixN l.length (z : Int) = some z := fun l z hl hz => by
          unfold ixN
          rw [if_pos (by omega), if_pos (by omega)]
          simp
        refine ⟨_, rfl, _, rfl, _, _, rfl, rfl, .inl ⟨by decide, by decide⟩, _, _, rfl, rfl, m, _, _, _, rfl, rfl, hM _, eb, ?_⟩
        refine ⟨_, rfl, _, rfl, _, rfl, _, _, rfl, rfl, .inl ⟨by decide, by decide⟩, m, _, _, _, rfl, rfl, hM _, ea, ?_⟩
        refine ⟨o, _, _, a, rfl, rfl, upd_same, ix _ a (by rw [List.length_map, List.length_map, List.length_range]) han, ?_⟩
        rw [upd_upd]
        refine ⟨_, rfl, _, rfl, _, _, rfl, rfl, .inl ⟨by decide, by decide⟩, m, _, _, _, rfl, rfl, hM _, ea, ?_⟩
        refine ⟨_, rfl, _, rfl, _, rfl, _, _, rfl, rfl, .inl ⟨by decide, by decide⟩, _, _, rfl, rfl, m, _, _, _, rfl, rfl, hM _, eb, ?_⟩
        refine ⟨o, _, _, b, rfl, rfl, upd_same, ix _ b (by rw [List.length_set, List.length_map, List.length_map, List.length_range]) hbn, ?_⟩
        rw [upd_upd]
        refine ⟨_, swp g a b, rfl, ?_, S.more hI hl ha hb⟩
        congr 2
        rw [← swp_list, List.map_set, List.map_set]
      · rintro σ H2 ⟨v8, g, rfl, rfl, S⟩
        refine ⟨_, rfl, ?_⟩
        have e : D.rt (V.ref o) (upd H1 o (.lst (((List.range n).map g).map nv))) := by
          rw [hD]
          exact q _ o _ (mutS s1 (s1.free no)) (s1.free no) upd_same (isPerm_of_graph S.perm) (by rw [List.length_map, List.length_range])
        exact e
    refine ⟨_, rfl, rfl, _, rfl, ite2 (fun _ => ?_) (fun _ => ?_)⟩
    · refine ⟨_, rfl, _, rfl, _, _, rfl, rfl, ⟨by decide, by decide⟩, _, _, rfl, rfl, _, _, rfl, rfl, (by show (0 : Int) < (n : Int) / 2 + 1; omega), ?_⟩
      refine ⟨_, rfl, rfl, _, rfl, iteF (iteF ?_)⟩
      have e : V.int ((d : Int) % ((n : Int) / 2 + 1)) = nv (d % (n / 2 + 1)) := by
        show V.int _ = V.int _
        congr 1
      show tSeq _ _ _ [some (.str k), some .non, some (.int c), some (nv n), some (nv d), some (.ref m), some (.ref o), some (V.int ((d : Int) % ((n : Int) / 2 + 1))), none] _
      rw [e]
      exact loop _ _ (by have := Nat.mod_lt d (show 0 < n / 2 + 1 by omega); omega) rfl
    · exact loop (n / 2) _ (Nat.le_refl _) rfl
end
structure BltC (K : PySem.W.Frag) (mg : Str → Option Value) (C : Addr) : Prop extends Blt mg where
  cl : Cls K C
section
variable {P : Program} {w : World} {K : PySem.W.Frag} {mg : Str → Option Value} {base : Heap} {C : Addr}
/-! ### wire_of -/
abbrev s_wire_of : Stmt := top 12
theorem sc_wire_of : FnScope ["images"] ["images"] (defScope s_wire_of) := ⟨rfl, rfl, rfl, by decide +kernel, rfl, by decide +kernel, by decide +kernel⟩

def spWireOf (K : PySem.W.Frag) (C : Addr) : Sp := fun vs H Q _ => ∃ (a : Addr) (im : List Nat), vs = [.ref a] ∧ SqL K H a (im.map nv) ∧ IsPerm im ∧ 1 ≤ im.length ∧ im.length ≤ 60 ∧
  ∀ (x l : Addr) (H' : Hp), Same H H' → H x = none → H l = none → WireL C H' x l im → Q (.ref x) H'
theorem ok_wire_of {f : Addr} {fd : FuncData} (F : Fun K "wire_of" "wire_of" s_wire_of f fd) (T : Blt mg) (M_Wire : MakeOk P w K mg base CX0 2 C "Wire" ["self", "size", "rings"] [] (spInit K C)) (D_rings_of : DefOk P w K mg base CX0 1 "rings_of" ["moves"] [] spRingsOf) :
    FnOk P w K mg base CX0 4 f fd ["images"] (spWireOf K C) := by
  refine F.ok sc_wire_of (fun vs H Q E h => ?_) (fun cdv A outer s H vs Q E hr h => ?_)
  · obtain ⟨a, im, rfl, _⟩ := h; rfl
  · obtain ⟨a, im, rfl, hS, hI, n1, n2, q⟩ := h
    have P := hI.perm
    refine ⟨_, (pss_one (ps_ret (pe_mk' M_Wire hr pass0 (pa_cons (pe_callB call_len_seq (by rfl) T.len PySem.boot_len (pa_cons (pv 0) pa_nil)) (pa_cons (pe_d D_rings_of hr pass0 (pa_cons (pe_dictEnum rfl (by rfl) T.dict (by rfl) T.enumerate (pv 0)) pa_nil)) pa_nil))))), ?_⟩
    refine ⟨_, rfl, a, _, rfl, .inl hS, _, rfl, a, _, rfl, hS, fun d nd => ?_⟩
    rw [enum_graph]
    refine ⟨d, ap im, im.length, _, rfl, upd_same, moves_of_perm hI n2, fun o as H1 s no nas hoa hnd ho hg => ?_⟩
    have s1 := Same.trans (same_upd nd) s
    intro x dx nx ndx nex
    have s2 : Same H1 (upd (upd H1 dx (.own x)) x (.ins C dx [])) := (same_upd ndx).trans (same_upd (by rw [upd_ne nex.symm]; exact nx))
    rw [List.length_map]
    refine ⟨x, dx, o, im.length, ap im, as, _, rfl, upd_same, SqL.of (s2 _ _ ho), hg.mono s2, ringsOf_perm P, n1, by omega, fun l H2 k nl hx hl => ⟨rfl, ?_⟩⟩
    have s3 : Same H1 H2 := Same.made nx ndx k
    rw [im_eq] at hl
    exact q x l H2 (s1.trans s3) (s1.free nx) ((s1.trans s2).free nl) ⟨⟨dx, hx⟩, hl⟩
/-! ### Wire.__getitem__ -/
abbrev s_Wire_getitem : Stmt := inClass (top 11) 8
theorem sc_Wire_getitem : FnScope ["self", "at"] ["self", "at"] (defScope s_Wire_getitem) := ⟨rfl, rfl, rfl, by decide +kernel, rfl, by decide +kernel, by decide +kernel⟩

def spGet (C : Addr) : Sp := fun vs H Q _ => ∃ (a : Addr) (im : List Nat) (i : Nat), vs = [.ref a, nv i] ∧ WireAt C H a im ∧ i < im.length ∧ Q (nv (ap im i)) H
theorem ok_Wire_getitem {f : Addr} {fd : FuncData} (F : Fun K "__getitem__" "Wire.__getitem__" s_Wire_getitem f fd) (T : Blt mg) (W : WTxt K C) : FnOk P w K mg base CX0 1 f fd ["self", "at"] (spGet C) := by
  refine F.ok sc_Wire_getitem (fun vs H Q E h => ?_) (fun cdv A outer s H vs Q E hr h => ?_)
  · obtain ⟨a, im, i, rfl, _⟩ := h; rfl
  · obtain ⟨a, im, i, rfl, ⟨l, ⟨dx, h1⟩, h2⟩, hi, q⟩ := h
    refine ⟨_, (pss_cons (ps_if (PW.pt (pw_or (pt_cmpR op_lt (pv 1) pe_int (nomark _)) (pw_or1 (pt_cmpR op_ge (pv 1) (pe_fld (pv 0) rfl) (nomark _))))) pss_never pss_nil)
    (pss_one (ps_ret (pe_ix ix_list (pe_fld (pv 0) rfl) (pv 1) (fun _ _ => rfl))))), ?_⟩
    refine ⟨_, rfl, _, _, rfl, rfl, _, rfl, decF (by omega) ?_⟩
    refine ⟨_, rfl, _, rfl, a, C, dx, _, _, rfl, h1, W.cl, W.nS, wF_size _ _, _, _, rfl, rfl, _, rfl, decF (by omega) ?_⟩
    exact ⟨_, rfl, a, C, dx, _, _, rfl, h1, W.cl, W.nI, wF_im _ _, _, rfl, l, _, _, _, rfl, rfl, SqL.of h2, atI_nat (nv_get (ap_get hi)), q⟩
/-! ### Wire.__rshift__ -/
abbrev s_Wire_rshift : Stmt := inClass (top 11) 10
theorem sc_Wire_rshift : FnScope ["self", "other", "image"] ["self", "other"] (defScope s_Wire_rshift) := ⟨rfl, rfl, rfl, by decide +kernel, rfl, by decide +kernel, by decide +kernel⟩

def spShift (C : Addr) : Sp := fun vs H Q _ => ∃ (a b : Addr) (im jm : List Nat), vs = [.ref a, .ref b] ∧ WireAt C H a im ∧ WireAt C H b jm ∧ IsPerm im ∧ IsPerm jm ∧ jm.length = im.length ∧ 1 ≤ im.length ∧ im.length ≤ 60 ∧
  ∀ (x l : Addr) (H' : Hp), Same H H' → H x = none → H l = none → WireL C H' x l (behind im jm) → Q (.ref x) H'
theorem ok_Wire_rshift {f : Addr} {fd : FuncData} (F : Fun K "__rshift__" "Wire.__rshift__" s_Wire_rshift f fd) (T : Blt mg) (W : WTxt K C) (hfn : ∀ f, PySem.W.findIn K (.ref C) "__getitem__" = some (some (.ref f)) → PySem.W.fnIn K f = true)
    (D_Wire_getitem : MethOk P w K mg base CX0 1 C "__getitem__" ["self", "at"] [] (spGet C)) (D_wire_of : DefOk P w K mg base CX0 4 "wire_of" ["images"] [] (spWireOf K C)) :
    FnOk P w K mg base CX0 5 f fd ["self", "other"] (spShift C) := by
  refine F.ok sc_Wire_rshift (fun vs H Q E h => ?_) (fun cdv A outer s H vs Q E hr h => ?_)
  · obtain ⟨a, b, im, jm, rfl, _⟩ := h; rfl
  · obtain ⟨a, b, im, jm, rfl, ⟨l, ⟨dx, h1⟩, h2⟩, hW2, hI, hJ, e, n1, n2, q⟩ := h
    obtain ⟨l', ⟨dx', h1'⟩, h2'⟩ := id hW2
    refine ⟨_, (pss_cons (ps_if (pt_cmpR op_ne (pe_fld (pv 1) rfl) (pe_fld (pv 0) rfl) (nomark _)) pss_never pss_nil)
    (pss_one (ps_ret (pe_d D_wire_of hr pass0 (pa_cons (pe_lc (own := [("image", 2)]) (tt := tYes) (te := tOp (rOwnIx C (spGet C) E0) (tVar 1) (tVar 2)) rfl sc_Wire_rshift.nd (pi_list (pe_fld (pv 0) rfl)) (blkOk_by (N := ["self", "other", "image"]) (sc := defScope s_Wire_rshift) (by decide +kernel)) (fun _ _ _ _ _ => (pg_name (i := 2) sc_Wire_rshift.nd rfl (.inl rfl))) (fun _ _ _ _ _ => pts_nil) (fun _ _ _ _ _ => by exact (pe_ownIx D_Wire_getitem hfn hr pass0 (pv 1) (pv 2)))) pa_nil))))), ?_⟩
    refine ⟨_, rfl, b, C, dx', _, _, rfl, h1', W.cl, W.nS, wF_size _ _, _, rfl, a, C, dx, _, _, rfl, h1, W.cl, W.nS, wF_size _ _, rfl, _, rfl, ?_⟩
    rw [e, decide_eq_true rfl]
    refine iteF ?_
    refine ⟨_, rfl, a, C, dx, _, _, rfl, h1, W.cl, W.nI, wF_im _ _, l, rfl, ⟨_, SqL.of h2⟩, fun D nD => ?_⟩
    refine lc_list (K := K) (a := l) (xs := im.map nv) (fun i H1 => Same H H1 ∧ H1 D = some (.lst (((im.take i).map (ap jm)).map nv))) ⟨same_upd nD, upd_same⟩ (fun i H1 _ ⟨s1, _⟩ => SqL.of (s1 _ _ h2)) ?_ ?_
    · rintro i y H1 hi ⟨s1, hD⟩
      obtain ⟨x, hx, rfl⟩ := of_nv_get hi
      have hxl : x < jm.length := by rw [e]; exact hI.lt x (List.mem_of_getElem? hx)
      refine ⟨rfl, yesT ?_⟩
      refine ⟨_, rfl, _, rfl, b, dx', _, _, rfl, rfl, s1 _ _ h1', b, jm, x, rfl, hW2.mono s1, hxl, _, hD, small64 (by rw [List.length_map, List.length_map, List.length_take]; omega), mutS s1 nD, ?_⟩
      rw [upd_same, List.take_add_one, hx, List.map_append, List.map_append]
      rfl
    · rintro H1 ⟨s1, hD⟩
      rw [List.length_map, List.take_length] at hD
      exact ⟨D, behind im jm, rfl, SqL.of hD, behind_perm hI hJ e, by rw [behind_len]; exact n1, by rw [behind_len]; exact n2, fun x l H2 s2 nx nl hW => q x l H2 (s1.trans s2) (s1.free nx) (s1.free nl) hW⟩
/-! ### Wire.times -/
def SameB (o : Addr) (H H' : Hp) : Prop := ∀ b u, H b = some u → b ≠ o → H' b = some u
theorem SameB.tup {o T : Addr} {H H' : Hp} {u : HO} (s : SameB o H H') (n : H' T = none) : SameB o H (upd H' T u) := fun b z h1 h2 => by
  have := s b z h1 h2
  rw [upd_ne (ne_of_none this n)]
  exact this
theorem SameB.mut {o : Addr} {H H' : Hp} {u : HO} (s : SameB o H H') : SameB o H (upd H' o u) := fun b z h1 h2 => by
  rw [upd_ne h2]
  exact s b z h1 h2
theorem flat_take {rs : List (List Nat)} {i : Nat} {r : List Nat} (h : rs[i]? = some r) : (rs.take (i + 1)).flatten = (rs.take i).flatten ++ r := by
  rw [List.take_add_one, h]
  simp
abbrev s_Wire_times : Stmt := inClass (top 11) 4
theorem sc_Wire_times : FnScope ["self", "k", "images", "ring", "at", "place"] ["self", "k"] (defScope s_Wire_times) := ⟨rfl, rfl, rfl, by decide +kernel, rfl, by decide +kernel, by decide +kernel⟩

def spTimes (C : Addr) : Sp := fun vs H Q _ => ∃ (a : Addr) (im : List Nat) (k : Int), vs = [.ref a, .int k] ∧ WireAt C H a im ∧ IsPerm im ∧ 1 ≤ im.length ∧ im.length ≤ 60 ∧
  ∀ (x l : Addr) (H' : Hp), Same H H' → H x = none → H l = none → WireL C H' x l (timesL im k) → Q (.ref x) H'
theorem ok_Wire_times {f : Addr} {fd : FuncData} (F : Fun K "times" "Wire.times" s_Wire_times f fd) (T : BltC K mg C) (W : WTxt K C)
    (D_Wire_rings : MethOk P w K mg base CX0 2 C "rings" ["self"] [] (spWRings C)) (D_wire_of : DefOk P w K mg base CX0 4 "wire_of" ["images"] [] (spWireOf K C)) :
    FnOk P w K mg base CX0 5 f fd ["self", "k"] (spTimes C) := by
  refine F.ok sc_Wire_times (fun vs H Q E h => ?_) (fun cdv A outer s H vs Q E hr h => ?_)
  · obtain ⟨a, im, k, rfl, _⟩ := h; rfl
  · obtain ⟨a, im, k, rfl, hW, hI, n1, n2, q⟩ := h
    obtain ⟨l, ⟨dx, h1⟩, h2⟩ := id hW
    have P := hI.perm
    have B := back_back hI
    refine ⟨_, (pss_cons (ps_set (i := 2) sc_Wire_times.nd rfl (.inl rfl) (pe_listRg rfl (by rfl) T.list (prg_1 (by rfl) T.range (pe_fld (pv 0) rfl))))
    (pss_cons (ps_for PassesOwn.never rfl (pi_list (pe_m0 D_Wire_rings T.cl hr pass0 (pv 0))) (pg_name (i := 3) sc_Wire_times.nd rfl (.inl rfl)) (pss_one (ps_for PassesOwn.never rfl (pi_enum (by rfl) T.enumerate (pa_cons (pv 3) pa_nil)) (pg_tup rfl (pgs_cons (pg_name (i := 4) sc_Wire_times.nd rfl (.inl rfl)) (pgs_cons (pg_name (i := 5) sc_Wire_times.nd rfl (.inl rfl)) pgs_nil))) (pss_one (ps_asg (pe_ix ix_list (pv 3) (pe_op op_mod (pe_op op_add (pv 4) (pv 1)) (pe_callB call_len_seq (by rfl) T.len PySem.boot_len (pa_cons (pv 3) pa_nil))) (fun _ _ => rfl)) (pg_sub (pv 2) (pv 5) set_list))))))
    (pss_one (ps_ret (pe_d D_wire_of hr pass0 (pa_cons (pv 2) pa_nil)))))), ?_⟩
    refine ⟨_, rfl, a, C, dx, _, _, rfl, h1, W.cl, W.nS, wF_size _ _, _, rfl, RgOk.of_le (by omega) (by omega) (by omega) (by omega), fun o no => ?_⟩
    rw [rgV_nat]
    have s1 : Same H (upd H o (.lst ((List.range im.length).map nv))) := same_upd no
    -- for ring in self.rings()
    refine ⟨_, rfl, a, dx, _, rfl, s1 _ _ h1, wF_no _ _ (by decide +kernel) (by decide +kernel), a, im, rfl, hW.mono s1, hI, n2, fun O as H1 s2 nO nas hOa hnd hO hg => ?_⟩
    have so := s2 _ _ (show (upd H o (.lst ((List.range im.length).map nv))) o = _ from upd_same)
    have nOo : O ≠ o := fun e => by rw [e, upd_same] at nO; cases nO
    have nao : ∀ b ∈ as, b ≠ o := fun b hb e => by
      have := nas b hb
      rw [e, upd_same] at this
      cases this
    have nd := rings_nodup P
    refine ⟨O, rfl, ⟨_, SqL.of hO⟩, for_list (K := K) (a := O) (xs := as.map V.ref) (fun i σ H2 => ∃ v3 v4 v5 : Option V, σ = [some (.ref a), some (.int k), some (.ref o), v3, v4, v5] ∧ SameB o H1 H2 ∧
        H2 o = some (.lst (((List.range im.length).map fun x => if x ∈ ((rings (ap im) im.length).take i).flatten then zit (ap im) (ap (backL im)) k x else x).map nv)))
      ⟨none, none, none, rfl, fun _ _ h _ => h, ?_⟩ (fun i σ H2 _ ⟨_, _, _, _, sb, _⟩ => SqL.of (sb _ _ hO nOo)) ?_ ?_⟩
    · rw [so]
      congr 2
      rw [List.take_zero, List.flatten_nil]
      simp
    · rintro i y σ H2 hi ⟨v3, v4, v5, rfl, sb, hD⟩
      obtain ⟨b, hb, rfl⟩ : ∃ b, as[i]? = some b ∧ y = V.ref b := by
        rw [List.getElem?_map] at hi
        cases e : as[i]? with
        | none => rw [e] at hi; cases hi
        | some b => rw [e] at hi; exact ⟨b, rfl, (Option.some.inj hi).symm⟩
      have hil : i < (rings (ap im) im.length).length := by rw [← hg.len]; exact (List.getElem?_eq_some_iff.mp hb).1
      obtain ⟨r, hr'⟩ : ∃ r, (rings (ap im) im.length)[i]? = some r := ⟨_, List.getElem?_eq_getElem hil⟩
      have hbr := hg.at_ i b r hb hr'
      have hbo := nao b (List.mem_of_getElem? hb)
      obtain ⟨p, hp, er⟩ := List.mem_map.mp (List.mem_of_getElem? hr')
      have hpn := (mem_heads.mp hp).1
      have rlen : r.length = per (ap im) im.length p := by rw [← er, ring_len]
      have r0 : 0 < r.length := by rw [rlen]; exact (per_spec P hpn).1
      have r60 : r.length ≤ im.length := by rw [rlen]; exact (per_spec P hpn).2.2.1
      refine ⟨.ref b, rfl, b, _, rfl, SqL.of (sb _ _ hbr hbo), ?_⟩
      refine for_it (walk_enum (K := K) (a := b) (xs := r.map nv)) (fun j σ H3 => ∃ v4 v5 : Option V, σ = [some (.ref a), some (.int k), some (.ref o), some (.ref b), v4, v5] ∧ SameB o H1 H3 ∧
          H3 o = some (.lst (((List.range im.length).map fun x => if x ∈ ((rings (ap im) im.length).take i).flatten ++ r.take j then zit (ap im) (ap (backL im)) k x else x).map nv)))
        ⟨v4, v5, rfl, sb, ?_⟩ (fun j σ H3 _ ⟨_, _, _, sb, _⟩ => SqL.of (sb _ _ hbr hbo)) ?_ ?_
      · rw [hD, List.take_zero, List.append_nil]
      · rintro j y σ H3 H4 hj ⟨v4, v5, rfl, sb3, hD3⟩ ⟨T1, x1, x2, rfl, nT, rfl, f1, f2⟩
        have e1 : x1 = V.int (j : Nat) := (Option.some.inj f1).symm
        subst e1
        rw [List.length_map] at hj
        obtain ⟨x, hx, rfl⟩ := of_nv_get f2
        have hxn : x < im.length := rings_lt P (List.mem_flatten.mpr ⟨r, List.mem_of_getElem? hr', List.mem_of_getElem? hx⟩)
        have nTo : T1 ≠ o := (ne_of_none hD3 nT).symm
        have sb4 := SameB.tup (u := .tup [V.int (j : Nat), nv x]) sb3 nT
        have hB := SqL.of (K := K) (sb4 _ _ hbr hbo)
        have hO4 : (upd H3 T1 (.tup [V.int (j : Nat), nv x])) o = some (.lst (((List.range im.length).map fun x => if x ∈ ((rings (ap im) im.length).take i).flatten ++ r.take j then zit (ap im) (ap (backL im)) k x else x).map nv)) := by rw [upd_ne nTo.symm]; exact hD3
        refine ⟨T1, _, rfl, SqT.of upd_same, rfl, _, _, rfl, _, _, rfl, rfl, ?_⟩
        refine ⟨_, rfl, _, rfl, _, rfl, _, _, rfl, rfl, _, rfl, b, _, rfl, .inl hB, _, _, rfl, rfl, ?_⟩
        rw [List.length_map]
        obtain ⟨m, em, hm⟩ : ∃ m : Nat, ((j : Int) + k) % ((r.length : Nat) : Int) = (m : Int) ∧ r[m]? = some (zit (ap im) (ap (backL im)) k x) := by
          have nn := Int.emod_nonneg ((j : Int) + k) (show ((r.length : Nat) : Int) ≠ 0 by omega)
          have lt := Int.emod_lt_of_pos ((j : Int) + k) (show (0 : Int) < (r.length : Nat) by omega)
          refine ⟨(((j : Int) + k) % ((r.length : Nat) : Int)).toNat, (Int.toNat_of_nonneg nn).symm, ?_⟩
          have hxj : x = it (ap im) j p := by
            have := ring_get (ap im) im.length p j (by rw [← rlen]; exact hj)
            rw [er, hx] at this
            exact Option.some.inj this
          have sh := ring_shift P B hpn k j
          rw [← rlen, ← hxj] at sh
          rw [← sh]
          have := ring_get (ap im) im.length p (((j : Int) + k) % ((r.length : Nat) : Int)).toNat (by rw [← rlen]; omega)
          rw [er] at this
          exact this
        refine ⟨(by show (0 : Int) < (r.length : Nat); omega), b, _, _, _, rfl, rfl, hB, (by rw [em]; exact atI_nat (nv_get hm)), ?_⟩
        have ix : ∀ (l : List V) (z : Nat), l.length = im.length → z < im.length → ixN l.length (z : Int) = some z := fun l z hl hz => by
          unfold ixN
          rw [if_pos (by omega), if_pos (by omega)]
          simp
        refine ⟨_, rfl, _, rfl, o, _, _, x, rfl, rfl, hO4, ix _ x (by rw [List.length_map, List.length_map, List.length_range]) hxn, ?_⟩
        refine ⟨_, _, rfl, SameB.mut sb4, ?_⟩
        rw [upd_same]
        congr 2
        rw [← List.map_set, map_set]
        congr 1
        refine List.map_congr_left fun y _ => ?_
        rw [List.take_add_one, hx]
        by_cases c : y = x
        · rw [if_pos c, if_pos (by rw [c]; simp), c]
        · rw [if_neg c]
          have : (y ∈ ((rings (ap im) im.length).take i).flatten ++ (r.take j ++ (some x).toList)) ↔ y ∈ ((rings (ap im) im.length).take i).flatten ++ r.take j := by
            simp [c]
          by_cases d : y ∈ ((rings (ap im) im.length).take i).flatten ++ r.take j
          · rw [if_pos d, if_pos (this.mpr d)]
          · rw [if_neg d, if_neg (fun z => d (this.mp z))]
      · rintro σ H3 ⟨v4, v5, rfl, sb3, hD3⟩
        refine ⟨_, _, _, rfl, sb3, ?_⟩
        rw [List.length_map, List.take_length] at hD3
        rw [hD3, flat_take hr']
    · rintro σ H2 ⟨v3, v4, v5, rfl, sb, hD⟩
      rw [List.length_map, hg.len, List.take_length] at hD
      have eT : ((List.range im.length).map fun x => if x ∈ (rings (ap im) im.length).flatten then zit (ap im) (ap (backL im)) k x else x) = timesL im k := by
        unfold timesL
        refine List.map_congr_left fun x hx => ?_
        have hxn := List.mem_range.mp hx
        by_cases c : x ∈ (rings (ap im) im.length).flatten
        · rw [if_pos c]
        · rw [if_neg c, zit_fix P B k hxn (rings_stay P hxn c)]
      rw [eT] at hD
      have s3 : Same H H2 := fun b u hb => by
        have := s2 _ _ (s1 _ _ hb)
        exact sb b u this (fun e => by rw [e, no] at hb; cases hb)
      exact ⟨_, rfl, o, timesL im k, rfl, SqL.of hD, timesL_perm hI k, by rw [timesL_len]; exact n1, by rw [timesL_len]; exact n2, fun x l H3 s4 nx nl hW3 => q x l H3 (s3.trans s4) (s3.free nx) (s3.free nl) hW3⟩
end
theorem rep_zero (n : Nat) : (List.replicate n [V.int 0]).flatten = ((List.range n).map fun _ => 0).map nv := by
  induction n with
  | zero => rfl
  | succ n ih =>
    rw [List.replicate_succ', List.flatten_append, ih, List.range_succ, List.map_append, List.map_append]
    rfl
theorem idx_at {im : List Nat} (h : im.Nodup) {i x : Nat} (hx : im[i]? = some x) : im.idxOf x = i := by
  obtain ⟨hi, e⟩ := List.getElem?_eq_some_iff.mp hx
  rw [← e]
  exact h.idxOf_getElem i hi
theorem ix_at (l : List V) (n z : Nat) (hl : l.length = n) (hz : z < n) : ixN l.length (z : Int) = some z := by
  unfold ixN
  rw [if_pos (by omega), if_pos (by omega)]
  simp
section
variable {P : Program} {w : World} {K : PySem.W.Frag} {mg : Str → Option Value} {base : Heap} {C : Addr}
/-! ### ~ and ** -/
abbrev s_Wire_invert : Stmt := inClass (top 11) 11
theorem sc_Wire_invert : FnScope ["self"] ["self"] (defScope s_Wire_invert) := ⟨rfl, rfl, rfl, by decide +kernel, rfl, by decide +kernel, by decide +kernel⟩

def spInv (C : Addr) : Sp := fun vs H Q _ => ∃ (a : Addr) (im : List Nat), vs = [.ref a] ∧ WireAt C H a im ∧ IsPerm im ∧ 1 ≤ im.length ∧ im.length ≤ 60 ∧
  ∀ (x l : Addr) (H' : Hp), Same H H' → H x = none → H l = none → WireL C H' x l (backL im) → Q (.ref x) H'
theorem ok_Wire_invert {f : Addr} {fd : FuncData} (F : Fun K "__invert__" "Wire.__invert__" s_Wire_invert f fd) (T : BltC K mg C) (D_Wire_times : MethOk P w K mg base CX0 5 C "times" ["self", "k"] [] (spTimes C)) :
    FnOk P w K mg base CX0 6 f fd ["self"] (spInv C) := by
  refine F.ok sc_Wire_invert (fun vs H Q E h => ?_) (fun cdv A outer s H vs Q E hr h => ?_)
  · obtain ⟨a, im, rfl, _⟩ := h; rfl
  · obtain ⟨a, im, rfl, hW, hI, n1, n2, q⟩ := h
    obtain ⟨l, ⟨dx, h1⟩, h2⟩ := id hW
    refine ⟨_, (pss_one (ps_ret (pe_m D_Wire_times T.cl hr pass0 (pv 0) (pa_cons (pe_un un_neg pe_int) pa_nil)))), ?_⟩
    refine ⟨_, rfl, a, dx, _, rfl, h1, wF_no _ _ (by decide +kernel) (by decide +kernel), _, rfl, a, im, -1, rfl, hW, hI, n1, n2, fun x l H' s nx nl hx => q x l H' s nx nl ?_⟩
    rw [timesL_back hI] at hx
    exact hx
abbrev s_Wire_pow : Stmt := inClass (top 11) 12
theorem sc_Wire_pow : FnScope ["self", "other"] ["self", "other"] (defScope s_Wire_pow) := ⟨rfl, rfl, rfl, by decide +kernel, rfl, by decide +kernel, by decide +kernel⟩

theorem ok_Wire_pow {f : Addr} {fd : FuncData} (F : Fun K "__pow__" "Wire.__pow__" s_Wire_pow f fd) (T : BltC K mg C) (D_Wire_times : MethOk P w K mg base CX0 5 C "times" ["self", "k"] [] (spTimes C)) :
    FnOk P w K mg base CX0 6 f fd ["self", "other"] (spTimes C) := by
  refine F.ok sc_Wire_pow (fun vs H Q E h => ?_) (fun cdv A outer s H vs Q E hr h => ?_)
  · obtain ⟨a, im, k, rfl, _⟩ := h; rfl
  · obtain ⟨a, im, k, rfl, hW, hI, n1, n2, q⟩ := h
    obtain ⟨l, ⟨dx, h1⟩, h2⟩ := id hW
    refine ⟨_, (pss_one (ps_ret (pe_m D_Wire_times T.cl hr pass0 (pv 0) (pa_cons (pv 1) pa_nil)))), ?_⟩
    exact ⟨_, rfl, a, dx, _, rfl, h1, wF_no _ _ (by decide +kernel) (by decide +kernel), _, rfl, a, im, k, rfl, hW, hI, n1, n2, q⟩
/-! ### _law_behind, _law_back, _law_times -/
abbrev s_l_behind : Stmt := top 28
theorem sc_l_behind : FnScope ["_law_one", "_law_two", "_law_place"] ["_law_one", "_law_two"] (defScope s_l_behind) := ⟨rfl, rfl, rfl, by decide +kernel, rfl, by decide +kernel, by decide +kernel⟩

def spBehind (K : PySem.W.Frag) : Sp := fun vs H Q _ => ∃ (a b : Addr) (im jm : List Nat), vs = [.ref a, .ref b] ∧ SqL K H a (im.map nv) ∧ SqL K H b (jm.map nv) ∧ (∀ x ∈ im, x < jm.length) ∧ im.length ≤ 100 ∧
  ∀ (o : Addr) (H' : Hp), Same H H' → H o = none → H' o = some (.lst ((behind im jm).map nv)) → Q (.ref o) H'
theorem ok_l_behind {f : Addr} {fd : FuncData} (F : Fun K "_law_behind" "_law_behind" s_l_behind f fd) : FnOk P w K mg base CX0 1 f fd ["_law_one", "_law_two"] (spBehind K) := by
  refine F.ok sc_l_behind (fun vs H Q E h => ?_) (fun cdv A outer s H vs Q E hr h => ?_)
  · obtain ⟨a, b, im, jm, rfl, _⟩ := h; rfl
  · obtain ⟨a, b, im, jm, rfl, hA, hB, hlt, hn, q⟩ := h
    refine ⟨_, (pss_one (ps_ret (pe_lc (own := [("_law_place", 2)]) (tt := tYes) (te := tOp (rIxL K) (tVar 1) (tVar 2)) rfl sc_l_behind.nd (pi_list (pv 0)) (blkOk_by (N := ["_law_one", "_law_two", "_law_place"]) (sc := defScope s_l_behind) (by decide +kernel)) (fun _ _ _ _ _ => (pg_name (i := 2) sc_l_behind.nd rfl (.inl rfl))) (fun _ _ _ _ _ => pts_nil) (fun _ _ _ _ _ => by exact (pe_ix ix_list (pv 1) (pv 2) (fun _ _ => rfl)))))), ?_⟩
    refine ⟨_, rfl, a, rfl, ⟨_, hA⟩, fun D nD => ?_⟩
    refine lc_list (K := K) (a := a) (xs := im.map nv) (fun i H1 => Same H H1 ∧ H1 D = some (.lst (((im.take i).map (ap jm)).map nv))) ⟨same_upd nD, upd_same⟩ (fun i H1 _ ⟨s1, _⟩ => s1.seq hA) ?_ ?_
    · rintro i y H1 hi ⟨s1, hD⟩
      obtain ⟨x, hx, rfl⟩ := of_nv_get hi
      have hxl := hlt x (List.mem_of_getElem? hx)
      refine ⟨rfl, yesT ?_⟩
      refine ⟨_, rfl, _, rfl, b, _, _, _, rfl, rfl, s1.seq hB, atI_nat (nv_get (ap_get hxl)), _, hD, small64 (by rw [List.length_map, List.length_map, List.length_take]; omega), mutS s1 nD, ?_⟩
      rw [upd_same, List.take_add_one, hx, List.map_append, List.map_append]
      rfl
    · rintro H1 ⟨s1, hD⟩
      rw [List.length_map, List.take_length] at hD
      exact q D H1 s1 nD hD
abbrev s_l_back : Stmt := top 29
theorem sc_l_back : FnScope ["_law_images", "_law_out", "_law_place"] ["_law_images"] (defScope s_l_back) := ⟨rfl, rfl, rfl, by decide +kernel, rfl, by decide +kernel, by decide +kernel⟩

def spBack (K : PySem.W.Frag) : Sp := fun vs H Q _ => ∃ (a : Addr) (im : List Nat), vs = [.ref a] ∧ SqL K H a (im.map nv) ∧ IsPerm im ∧ im.length ≤ 100 ∧
  ∀ (o : Addr) (H' : Hp), Same H H' → H o = none → H' o = some (.lst ((backL im).map nv)) → Q (.ref o) H'
theorem ok_l_back {f : Addr} {fd : FuncData} (F : Fun K "_law_back" "_law_back" s_l_back f fd) (T : Blt mg) : FnOk P w K mg base CX0 1 f fd ["_law_images"] (spBack K) := by
  refine F.ok sc_l_back (fun vs H Q E h => ?_) (fun cdv A outer s H vs Q E hr h => ?_)
  · obtain ⟨a, im, rfl, _⟩ := h; rfl
  · obtain ⟨a, im, rfl, hA, hI, hn, q⟩ := h
    refine ⟨_, (pss_cons (ps_set (i := 1) sc_l_back.nd rfl (.inl rfl) (pe_op op_rep (pe_lst (pa_cons pe_int pa_nil)) (pe_callB call_len_seq (by rfl) T.len PySem.boot_len (pa_cons (pv 0) pa_nil))))
    (pss_cons (ps_for PassesOwn.never rfl (pi_range1 (by rfl) T.range (pa_cons (pe_callB call_len_seq (by rfl) T.len PySem.boot_len (pa_cons (pv 0) pa_nil)) pa_nil)) (pg_name (i := 2) sc_l_back.nd rfl (.inl rfl)) (pss_one (ps_asg (pv 2) (pg_sub (pv 1) (pe_ix ix_list (pv 0) (pv 2) (fun _ _ => rfl)) set_list))))
    (pss_one (ps_ret (pv 1))))), ?_⟩
    refine ⟨by show 1 ≤ sizeLine; decide, fun z nz => ?_⟩
    refine ⟨_, rfl, a, _, rfl, .inl ((same_upd nz).seq hA), z, _, _, rfl, rfl, upd_same, by omega, by rw [List.length_map]; omega, ?_, fun o no => ?_⟩
    · show 1 * _ ≤ sizeLine
      rw [List.length_map, Int.toNat_natCast, Nat.one_mul]
      exact Nat.le_of_lt (small64 (by omega))
    rw [List.length_map, Int.toNat_natCast, rep_zero]
    have s1 : Same H (upd (upd H z (.lst [V.int 0])) o (.lst (((List.range im.length).map fun _ => 0).map nv))) := (same_upd nz).trans (same_upd no)
    have no' : H o = none := (same_upd nz).free no
    refine ⟨_, rfl, a, _, rfl, .inl (s1.seq hA), _, rfl, by omega, by rw [List.length_map]; omega, ?_⟩
    rw [Int.toNat_natCast, List.length_map]
    refine for_range (lo := 0) (n := im.length) (fun i σ H1 => ∃ v2 : Option V, σ = [some (.ref a), some (.ref o), v2] ∧ Same H H1 ∧ H1 o = some (.lst (((List.range im.length).map fun y => if y ∈ im.take i then im.idxOf y else 0).map nv)))
      ⟨none, rfl, s1, by rw [upd_same, List.take_zero]; congr 3⟩ ?_ ?_
    · rintro i σ H1 hi ⟨v2, rfl, s2, hD⟩
      rw [Int.zero_add]
      have hx := ap_get hi
      have hxl := hI.perm.lt i hi
      refine ⟨_, rfl, _, rfl, _, rfl, _, rfl, a, _, _, _, rfl, rfl, s2.seq hA, atI_nat (nv_get hx), ?_⟩
      refine ⟨o, _, _, ap im i, rfl, rfl, hD, ix_at _ _ _ (by rw [List.length_map, List.length_map, List.length_range]) hxl, ?_⟩
      refine ⟨_, rfl, mutS s2 no', ?_⟩
      rw [upd_same]
      have en : V.int (i : Int) = nv i := rfl
      rw [en, ← List.map_set, map_set]
      congr 2
      refine congrArg (List.map nv) (List.map_congr_left fun y _ => ?_)
      rw [List.take_add_one, hx]
      by_cases c : y = ap im i
      · rw [if_pos c, if_pos (by rw [c]; simp), c, idx_at hI.nd hx]
      · rw [if_neg c]
        have : (y ∈ im.take i ++ (some (ap im i)).toList) ↔ y ∈ im.take i := by simp [c]
        by_cases d : y ∈ im.take i
        · rw [if_pos d, if_pos (this.mpr d)]
        · rw [if_neg d, if_neg (fun z => d (this.mp z))]
    · rintro σ H1 ⟨v2, rfl, s2, hD⟩
      have e : ((List.range im.length).map fun y => if y ∈ im.take im.length then im.idxOf y else 0) = backL im := by
        unfold backL
        refine List.map_congr_left fun y hy => ?_
        rw [List.take_length, if_pos (perm_mem hI (List.mem_range.mp hy))]
      rw [e] at hD
      exact ⟨_, rfl, q o H1 s2 no' hD⟩
theorem behind_it (S : List Nat) (n i : Nat) : behind ((List.range n).map (it (ap S) i)) S = (List.range n).map (it (ap S) (i + 1)) := by
  unfold behind
  rw [List.map_map]
  rfl
abbrev s_l_times : Stmt := top 30
theorem sc_l_times : FnScope ["_law_images", "_law_k", "_law_out", "_law_step", "_law_turn"] ["_law_images", "_law_k"] (defScope s_l_times) := ⟨rfl, rfl, rfl, by decide +kernel, rfl, by decide +kernel, by decide +kernel⟩

def spLTimes (K : PySem.W.Frag) : Sp := fun vs H Q _ => ∃ (a : Addr) (im : List Nat) (k : Int), vs = [.ref a, .int k] ∧ SqL K H a (im.map nv) ∧ IsPerm im ∧ im.length ≤ 60 ∧ -1000 ≤ k ∧ k ≤ 1000 ∧
  ∀ (o : Addr) (H' : Hp), Same H H' → H o = none → H' o = some (.lst ((timesL im k).map nv)) → Q (.ref o) H'
theorem ok_l_times {f : Addr} {fd : FuncData} (F : Fun K "_law_times" "_law_times" s_l_times f fd) (T : Blt mg) (D_l_back : DefOk P w K mg base CX0 1 "_law_back" ["_law_images"] [] (spBack K)) (D_l_behind : DefOk P w K mg base CX0 1 "_law_behind" ["_law_one", "_law_two"] [] (spBehind K)) :
    FnOk P w K mg base CX0 2 f fd ["_law_images", "_law_k"] (spLTimes K) := by
  refine F.ok sc_l_times (fun vs H Q E h => ?_) (fun cdv A outer s H vs Q E hr h => ?_)
  · obtain ⟨a, im, k, rfl, _⟩ := h; rfl
  · obtain ⟨a, im, k, rfl, hA, hI, hn, k1, k2, q⟩ := h
    refine ⟨_, (pss_cons (ps_set (i := 2) sc_l_times.nd rfl (.inl rfl) (pe_listRg rfl (by rfl) T.list (prg_1 (by rfl) T.range (pe_callB call_len_seq (by rfl) T.len PySem.boot_len (pa_cons (pv 0) pa_nil)))))
    (pss_cons (ps_set (i := 3) sc_l_times.nd rfl (.inl rfl) (pv 0))
    (pss_cons (ps_if (pt_cmpR op_lt (pv 1) pe_int (nomark _)) (pss_one (ps_set (i := 3) sc_l_times.nd rfl (.inl rfl) (pe_d D_l_back hr pass0 (pa_cons (pv 0) pa_nil)))) pss_nil)
    (pss_cons (ps_for PassesOwn.never rfl (pi_range1 (by rfl) T.range (pa_cons (pe_callB call_abs (by rfl) T.abs (by decide +kernel) (pa_cons (pv 1) pa_nil)) pa_nil)) (pg_name (i := 4) sc_l_times.nd rfl (.inl rfl)) (pss_one (ps_set (i := 2) sc_l_times.nd rfl (.inl rfl) (pe_d D_l_behind hr pass0 (pa_cons (pv 2) (pa_cons (pv 3) pa_nil))))))
    (pss_one (ps_ret (pv 2))))))), ?_⟩
    refine ⟨_, rfl, a, _, rfl, .inl hA, _, rfl, RgOk.of_le (by omega) (by rw [List.length_map]; omega) (by omega) (by omega), fun o no => ?_⟩
    rw [List.length_map, rgV_nat]
    have s1 := same_upd (o := .lst ((List.range im.length).map nv)) no
    have P := hI.perm
    have B := back_back hI
    have bl := backL_len im
    refine ⟨_, rfl, _, rfl, k, 0, rfl, rfl, _, rfl, ?_⟩
    by_cases c : k < 0
    · refine decT c ?_
      refine ⟨_, rfl, a, im, rfl, s1.seq hA, hI, by omega, fun b H2 s2 nb hb0 => ⟨_, rfl, ?_⟩⟩
      have T2 := s1.trans s2
      have hBB := SqL.of (K := K) hb0
      have hOO := s2 _ _ (show (upd H o (.lst ((List.range im.length).map nv))) o = _ from upd_same)
      have hlt : ∀ i z, z < im.length → it (ap (backL im)) i z < (backL im).length := fun i z hz => by rw [bl]; exact B.it_lt i hz
      have hfin : (List.range im.length).map (it (ap (backL im)) k.natAbs) = timesL im k := by
        unfold timesL
        refine List.map_congr_left fun x _ => ?_
        unfold zit
        rw [if_neg (by omega)]
      refine ⟨k, rfl, _, rfl, by split <;> omega, by split <;> omega, ?_⟩
      rw [show (if k < 0 then -k else k).toNat = k.natAbs by split <;> omega]
      refine for_range (lo := 0) (n := k.natAbs) (fun i σ H3 => ∃ (v4 : Option V) (x : Addr), σ = [some (.ref a), some (.int k), some (.ref x), some (.ref b), v4] ∧ Same H H3 ∧ H x = none ∧ SqL K H3 b ((backL im).map nv) ∧
          H3 x = some (.lst (((List.range im.length).map (it (ap (backL im)) i)).map nv)))
        ⟨none, o, rfl, T2, no, hBB, by rw [hOO]; congr 2; simp [it]⟩ ?_ ?_
      · rintro i σ H3 hi ⟨v4, x, rfl, s3, nx, hb, hx⟩
        rw [Int.zero_add]
        refine ⟨_, rfl, _, rfl, x, b, _, (backL im), rfl, SqL.of hx, hb, fun y hy => ?_, by rw [List.length_map, List.length_range]; omega, fun o' H4 s4 no' ho' => ?_⟩
        · obtain ⟨z, hz, rfl⟩ := List.mem_map.mp hy
          exact hlt i z (List.mem_range.mp hz)
        · rw [behind_it] at ho'
          exact ⟨_, o', rfl, s3.trans s4, s3.free no', s4.seq hb, ho'⟩
      · rintro σ H3 ⟨v4, x, rfl, s3, nx, hb, hx⟩
        rw [hfin] at hx
        exact ⟨_, rfl, q x H3 s3 nx hx⟩
    · refine decF c ?_
      refine ⟨_, rfl, ?_⟩
      have T2 := s1
      have hBB := s1.seq hA
      have hOO := (show (upd H o (.lst ((List.range im.length).map nv))) o = _ from upd_same)
      have hlt : ∀ i z, z < im.length → it (ap im) i z < im.length := fun i z hz => P.it_lt i hz
      have hfin : (List.range im.length).map (it (ap im) k.natAbs) = timesL im k := by
        unfold timesL
        refine List.map_congr_left fun x _ => ?_
        unfold zit
        rw [if_pos (by omega), show k.toNat = k.natAbs by omega]
      refine ⟨k, rfl, _, rfl, by split <;> omega, by split <;> omega, ?_⟩
      rw [show (if k < 0 then -k else k).toNat = k.natAbs by split <;> omega]
      refine for_range (lo := 0) (n := k.natAbs) (fun i σ H3 => ∃ (v4 : Option V) (x : Addr), σ = [some (.ref a), some (.int k), some (.ref x), some (.ref a), v4] ∧ Same H H3 ∧ H x = none ∧ SqL K H3 a (im.map nv) ∧
          H3 x = some (.lst (((List.range im.length).map (it (ap im) i)).map nv)))
        ⟨none, o, rfl, T2, no, hBB, by rw [hOO]; congr 2; simp [it]⟩ ?_ ?_
      · rintro i σ H3 hi ⟨v4, x, rfl, s3, nx, hb, hx⟩
        rw [Int.zero_add]
        refine ⟨_, rfl, _, rfl, x, a, _, im, rfl, SqL.of hx, hb, fun y hy => ?_, by rw [List.length_map, List.length_range]; omega, fun o' H4 s4 no' ho' => ?_⟩
        · obtain ⟨z, hz, rfl⟩ := List.mem_map.mp hy
          exact hlt i z (List.mem_range.mp hz)
        · rw [behind_it] at ho'
          exact ⟨_, o', rfl, s3.trans s4, s3.free no', s4.seq hb, ho'⟩
      · rintro σ H3 ⟨v4, x, rfl, s3, nx, hb, hx⟩
        rw [hfin] at hx
        exact ⟨_, rfl, q x H3 s3 nx hx⟩
end
/-! ### lists of ints and of bools compared -/
theorem dpI {K : PySem.W.Frag} {H : Hp} {a : Addr} {l : List Nat} (h : SqL K H a (l.map nv)) : Dp K H (.ref a) (.list (l.map fun (x : Nat) => PyData.int x)) := by
  refine .lst h ?_
  clear h
  induction l with
  | nil => exact .nil
  | cons x l ih => exact .cons (.int x) ih
theorem canI (l : List Nat) : PyData.canLayAll0 (l.map fun (x : Nat) => PyData.int x) = true := by
  induction l with
  | nil => rfl
  | cons x l ih =>
    rw [List.map_cons, PyData.canLayAll0, ih]
    rfl
theorem depI (l : List Nat) : PyData.depthAll (l.map fun (x : Nat) => PyData.int x) = 0 := by
  induction l with
  | nil => rfl
  | cons x l ih =>
    rw [List.map_cons, PyData.depthAll, ih]
    rfl
theorem shI (l : List Nat) : SeqAt.shaped (.list (l.map fun (x : Nat) => PyData.int x)) = true := by
  unfold SeqAt.shaped
  rw [PyData.canLay0, canI, PyData.depth, depI]
  rfl
theorem eqI (l m : List Nat) : PyData.eqv (.list (l.map fun (x : Nat) => PyData.int x)) (.list (m.map fun (x : Nat) => PyData.int x)) = decide (l = m) := by
  rw [PyData.eqv]
  induction l generalizing m with
  | nil =>
    cases m with
    | nil => rfl
    | cons y m => rfl
  | cons x l ih =>
    cases m with
    | nil => rfl
    | cons y m =>
      rw [List.map_cons, List.map_cons, PyData.eqvAll, ih m, PyData.eqv]
      by_cases c : x = y
      · subst c
        rw [beq_self_eq_true, Bool.true_and]
        simp
      · have : ((x : Int) == (y : Int)) = false := by rw [beq_eq_false_iff_ne]; omega
        rw [this, Bool.false_and]
        simp [c]
/-- the wire's class as the law asks of it -/
structure WTop (K : PySem.W.Frag) (mg : Str → Option Value) (C : Addr) : Prop extends BltC K mg C where
  g_Wire : mg "Wire" = some (.ref C)
  cla : PySem.W.findIn K (.ref C) "__class__" = some (some (.builtin "object.__class__"))
  hget : PySem.W.specialIn K (.builtin "object.__class__") "__get__" = some (some (.builtin "getset_descriptor.__get__"))
  htk : PySem.W.takesIn K (.builtin "object.__class__") = some true
  hmro : PySem.W.mroIn K C (.type "object") = some true
theorem kit_self {K : PySem.W.Frag} {v : Value} : PySem.W.kitOne K v v = some true := by
  unfold PySem.W.kitOne
  rw [if_pos (beq_self_eq_true _)]
section
variable {P : Program} {w : World} {K : PySem.W.Frag} {mg : Str → Option Value} {base : Heap} {C : Addr}
/-! ### _law_is_wire -/
abbrev s_l_is_wire : Stmt := top 26
theorem sc_l_is_wire : FnScope ["_law_wire_here", "_law_images", "_law_place"] ["_law_wire_here", "_law_images"] (defScope s_l_is_wire) := ⟨rfl, rfl, rfl, by decide +kernel, rfl, by decide +kernel, by decide +kernel⟩

def spIsWire (K : PySem.W.Frag) (C : Addr) : Sp := fun vs H Q _ => ∃ (x a : Addr) (im : List Nat), vs = [.ref x, .ref a] ∧ WireAt C H x im ∧ SqL K H a (im.map nv) ∧ im.length ≤ 60 ∧ ∀ H' : Hp, Same H H' → Q (.bl true) H'
theorem ok_l_is_wire {f : Addr} {fd : FuncData} (F : Fun K "_law_is_wire" "_law_is_wire" s_l_is_wire f fd) (T : WTop K mg C) (W : WTxt K C) (hfn : ∀ f, PySem.W.findIn K (.ref C) "__getitem__" = some (some (.ref f)) → PySem.W.fnIn K f = true)
    (D_Wire_getitem : MethOk P w K mg base CX0 1 C "__getitem__" ["self", "at"] [] (spGet C)) : FnOk P w K mg base CX0 3 f fd ["_law_wire_here", "_law_images"] (spIsWire K C) := by
  refine F.ok sc_l_is_wire (fun vs H Q E h => ?_) (fun cdv A outer s H vs Q E hr h => ?_)
  · obtain ⟨x, a, im, rfl, _⟩ := h; rfl
  · obtain ⟨x, a, im, rfl, hW, hS, hn, q⟩ := h
    obtain ⟨l, ⟨dx, h1⟩, h2⟩ := id hW
    have hu2 : (A.deeper (envOfC "_law_is_wire" (defScope s_l_is_wire) s.heap.objs.size f cdv)).units + 64 < cLine := by have := hr.un; omega
    refine ⟨_, (pss_cons (ps_if (PW.pt (pw_or (pt_not (pt_truth (pe_callB call_isi (by rfl) T.isinstance (by decide +kernel) (pa_cons (pv 0) (pa_cons (pe_glob (v := .ref _) rfl T.g_Wire rfl) pa_nil))) (by intro _; rfl))) (pw_or1 (pt_cmpR op_ne (pe_fld (pv 0) rfl) (pe_callB call_len_seq (by rfl) T.len PySem.boot_len (pa_cons (pv 1) pa_nil)) (nomark _))))) (pss_one (ps_ret pe_bl)) pss_nil)
    (pss_one (ps_ret (pe_cmpR (op_eqD hu2) (pe_lc (own := [("_law_place", 2)]) (tt := tYes) (te := tOp (rOwnIx C (spGet C) E0) (tVar 0) (tVar 2)) rfl sc_l_is_wire.nd (pi_range1 (by rfl) T.range (pa_cons (pe_callB call_len_seq (by rfl) T.len PySem.boot_len (pa_cons (pv 1) pa_nil)) pa_nil)) (blkOk_by (N := ["_law_wire_here", "_law_images", "_law_place"]) (sc := defScope s_l_is_wire) (by decide +kernel)) (fun _ _ _ _ _ => (pg_name (i := 2) sc_l_is_wire.nd rfl (.inl rfl))) (fun _ _ _ _ _ => pts_nil) (fun _ _ _ _ _ => by exact (pe_ownIx D_Wire_getitem hfn hr pass0 (pv 0) (pv 2)))) (pv 1) (nomark _))))), ?_⟩
    refine ⟨_, rfl, .ref x, .ref C, .ref C, .ref C, true, rfl, .own C, .base (.ins h1 T.cl T.cla T.hget T.htk T.hmro), kit_self, true, rfl, iteF ?_⟩
    refine ⟨_, rfl, x, C, dx, _, _, rfl, h1, W.cl, W.nS, wF_size _ _, _, rfl, a, _, rfl, .inl hS, rfl, _, rfl, ?_⟩
    have e0 : decide (nv im.length = V.int ((im.length : Nat) : Int)) = true := decide_eq_true rfl
    rw [List.length_map, e0]
    refine iteF ?_
    refine ⟨_, rfl, a, _, rfl, .inl hS, _, rfl, by omega, by rw [List.length_map]; omega, fun D nD => ?_⟩
    rw [Int.toNat_natCast, List.length_map]
    refine lc_range (lo := 0) (n := im.length) (fun i H1 => Same H H1 ∧ H1 D = some (.lst (((List.range i).map (ap im)).map nv))) ⟨same_upd nD, upd_same⟩ ?_ ?_
    · rintro i H1 hi ⟨s1, hD⟩
      rw [Int.zero_add]
      refine ⟨rfl, yesT ?_⟩
      refine ⟨_, rfl, _, rfl, x, dx, _, (i : Int), rfl, rfl, s1 _ _ h1, x, im, i, rfl, hW.mono s1, hi, _, hD, small64 (by rw [List.length_map, List.length_map, List.length_range]; omega), mutS s1 nD, ?_⟩
      rw [upd_same, List.range_succ, List.map_append, List.map_append]
      rfl
    · rintro H1 ⟨s1, hD⟩
      rw [im_eq] at hD
      refine ⟨_, rfl, _, _, dpI (SqL.of hD), dpI (s1.seq hS), shI _, shI _, ?_⟩
      rw [eqI, decide_eq_true rfl]
      exact q H1 s1
end
section
variable {P : Program} {w : World} {K : PySem.W.Frag} {mg : Str → Option Value} {base : Heap} {C CS : Addr}
theorem lk0 {f : Str} {v : V} : List.lookup f [(f, v)] = some v := by simp only [List.lookup, beq_self_eq_true]
/-! ### __rshift__ of two sizes -/
def spShiftX (C CS : Addr) : Sp := fun vs H Q E => ∃ (a b : Addr) (im jm : List Nat), vs = [.ref a, .ref b] ∧ WireAt C H a im ∧ WireAt C H b jm ∧ jm.length ≠ im.length ∧ ∀ d : Addr, H d = none → E (.ref CS) (some d) (upd H d (.xd [("size", nv jm.length)]))
theorem ok_Wire_rshiftX {f : Addr} {fd : FuncData} (F : Fun K "__rshift__" "Wire.__rshift__" s_Wire_rshift f fd) (W : WTxt K C) (D_WrongSize : ErrOk P w K mg base CX0 1 CS "WrongSize" "size" "size") :
    FnOk P w K mg base (L2.CX P w) 3 f fd ["self", "other"] (spShiftX C CS) := by
  refine F.okX sc_Wire_rshift (fun vs H Q E h => ?_) (fun cdv A outer s H vs Q E hr h => ?_)
  · obtain ⟨a, b, im, jm, rfl, _⟩ := h; rfl
  · obtain ⟨a, b, im, jm, rfl, ⟨l, ⟨dx, h1⟩, h2⟩, ⟨l', ⟨dx', h1'⟩, h2'⟩, e, q⟩ := h
    refine ⟨_, pss_cons (ps_if (pt_cmpR op_ne (pe_fld (pv 1) rfl) (pe_fld (pv 0) rfl) (nomark _)) (pss_one (ps_raise rfl (takes_of rfl rfl rfl rfl) (pmk_err D_WrongSize hr pass0 (pe_fld (pv 1) rfl)))) pss_nil) (pss_one ps_never), ?_⟩
    refine ⟨_, rfl, b, C, dx', _, _, rfl, h1', W.cl, W.nS, wF_size _ _, _, rfl, a, C, dx, _, _, rfl, h1, W.cl, W.nS, wF_size _ _, rfl, _, rfl, ?_⟩
    have e0 : decide (nv jm.length = nv im.length) = false := decide_eq_false fun z => e (by have := V.int.inj z; omega)
    rw [e0]
    refine iteT ?_
    exact ⟨_, rfl, b, C, dx', _, _, rfl, h1', W.cl, W.nS, wF_size _ _, fun d nd => q d nd⟩
/-! ### _law_wrong_size -/
abbrev s_l_wrong_size : Stmt := top 31
theorem sc_l_wrong_size : FnScope ["_law_one", "_law_two", "_law_size_here", "e"] ["_law_one", "_law_two"] (defScope s_l_wrong_size) := ⟨rfl, rfl, rfl, by decide +kernel, rfl, by decide +kernel, by decide +kernel⟩

def spWrong (C : Addr) : Sp := fun vs H Q _ => ∃ (a b : Addr) (im jm : List Nat), vs = [.ref a, .ref b] ∧ WireAt C H a im ∧ WireAt C H b jm ∧ jm.length ≠ im.length ∧ ∀ H' : Hp, Same H H' → Q (nv jm.length) H'
theorem ok_l_wrong {f : Addr} {fd : FuncData} (F : Fun K "_law_wrong_size" "_law_wrong_size" s_l_wrong_size f fd) (c : OpC K C) (hE : ErrC K CS) (g : mg "WrongSize" = some (.ref CS)) (no : PySem.W.findIn K (.ref CS) "size" = some none) (exm : PySem.W.exmOne K (.ref CS) (.ref CS) = some true)
    (D_rshiftX : MethOk P w K mg base (L2.CX P w) 3 C "__rshift__" ["self", "other"] [] (spShiftX C CS)) : FnOk P w K mg base CX0 4 f fd ["_law_one", "_law_two"] (spWrong C) := by
  refine F.ok sc_l_wrong_size (fun vs H Q E h => ?_) (fun cdv A outer s H vs Q E hr h => ?_)
  · obtain ⟨a, b, im, jm, rfl, _⟩ := h; rfl
  · obtain ⟨a, b, im, jm, rfl, hW, hW', e, q⟩ := h
    obtain ⟨l, ⟨dx, h1⟩, h2⟩ := id hW
    obtain ⟨l', ⟨dx', h1'⟩, h2'⟩ := id hW'
    refine ⟨_, pss_cons (ps_set (i := 2) sc_l_wrong_size.nd rfl (.inl rfl) pe_int)
      (pss_cons (ps_try_as (i := 3) (tb := fun W => tDrop (tOwnS C (spShiftX C CS) (WE W) (tVar 0) (tVar 1))) (ts := fun a cls d => tAsg (tXf a cls d CS "size" (tVar 3)) (gName 2)) (Wout := fun _ _ _ _ => False)
        rfl rfl sc_l_wrong_size.nd rfl rfl ⟨rfl, by decide, Or.inl g⟩ takes0
        (fun W pn xe tk _ => pss_one (ps_expr (by exact (pe_ownS D_rshiftX c hr (fun σ => passAt tk σ) (pv 0) (pv 1)))))
        (fun a oe cls d pn hz hf => pss_one (ps_set (i := 2) sc_l_wrong_size.nd rfl (.inl rfl) (by exact (pe_xf hE.xf no hz hf (pv 3))))))
      (pss_one (ps_ret (pv 2)))), ?_⟩
    refine ⟨_, rfl, _, rfl, a, b, dx, dx', _, _, rfl, rfl, h1, h1', a, b, im, jm, rfl, hW, hW', e, fun d nd => ?_⟩
    refine ⟨true, exm, fun _ a0 _ => ?_, fun q => Bool.noConfusion q⟩
    refine ⟨_, rfl, rfl, rfl, d, _, _, rfl, upd_same, lk0, ?_⟩
    exact ⟨_, rfl, q _ (same_upd nd)⟩
end
/-! ### pairs of a wire and its list -/
def PairB (p : Addr) (C : Addr) (H : Hp) (T : Addr) (im : List Nat) : Prop := ∃ x o l dx, T ≠ p ∧ x ≠ p ∧ o ≠ p ∧ l ≠ p ∧ H T = some (.tup [.ref x, .ref o]) ∧ H x = some (.ins C dx (wF im.length l)) ∧ H l = some (.lst (im.map nv)) ∧ H o = some (.lst (im.map nv))
theorem PairB.mono {p C T : Addr} {H H' : Hp} {im : List Nat} (h : PairB p C H T im) (s : Same H H') : PairB p C H' T im := by
  obtain ⟨x, o, l, dx, a, b, c, d, e1, e2, e3, e4⟩ := h
  exact ⟨x, o, l, dx, a, b, c, d, s _ _ e1, s _ _ e2, s _ _ e3, s _ _ e4⟩
theorem PairB.mut {p C T : Addr} {H : Hp} {im : List Nat} {u : HO} (h : PairB p C H T im) : PairB p C (upd H p u) T im := by
  obtain ⟨x, o, l, dx, a, b, c, d, e1, e2, e3, e4⟩ := h
  exact ⟨x, o, l, dx, a, b, c, d, by rw [upd_ne a]; exact e1, by rw [upd_ne b]; exact e2, by rw [upd_ne d]; exact e3, by rw [upd_ne c]; exact e4⟩
/-- the list at p holds pairs of these maps -/
def PL (p C : Addr) (H : Hp) (Ts : List Addr) (ims : List (List Nat)) : Prop := Ts.length = ims.length ∧ ∀ (i : Nat) (T : Addr) (im : List Nat), Ts[i]? = some T → ims[i]? = some im → PairB p C H T im
theorem PL.more {p C T : Addr} {H H' : Hp} {Ts : List Addr} {ims : List (List Nat)} {im : List Nat} {u : HO} (h : PL p C H Ts ims) (s : Same H H') (n : PairB p C H' T im) : PL p C (upd H' p u) (Ts ++ [T]) (ims ++ [im]) := by
  refine ⟨by rw [List.length_append, List.length_append, h.1]; rfl, fun i T' im' h1 h2 => ?_⟩
  by_cases c : i < Ts.length
  · rw [List.getElem?_append_left c] at h1
    rw [List.getElem?_append_left (by rw [← h.1]; exact c)] at h2
    exact ((h.2 i T' im' h1 h2).mono s).mut
  · rw [List.getElem?_append_right (by omega)] at h1
    rw [List.getElem?_append_right (by rw [← h.1]; omega)] at h2
    rw [← h.1] at h2
    obtain ⟨e, h1'⟩ : i - Ts.length = 0 ∧ True := by
      by_cases e : i - Ts.length = 0
      · exact ⟨e, trivial⟩
      · rw [List.getElem?_eq_none (by rw [List.length_singleton]; omega)] at h1
        cases h1
    rw [e] at h1 h2
    cases h1
    cases h2
    exact n.mut
theorem PairB.new {p C T x o l dx : Addr} {H : Hp} {im : List Nat} {u : HO} (hp : H p = none) (hT : H T = some (.tup [.ref x, .ref o])) (hx : H x = some (.ins C dx (wF im.length l))) (hl : H l = some (.lst (im.map nv))) (ho : H o = some (.lst (im.map nv))) :
    PairB p C (upd H p u) T im :=
  PairB.mut ⟨x, o, l, dx, ne_of_none hT hp, ne_of_none hx hp, ne_of_none ho hp, ne_of_none hl hp, hT, hx, hl, ho⟩
theorem ne_fresh {H : Hp} {p x : Addr} {u : HO} (hp : H p = some u) (nx : H x = none) : x ≠ p := fun e => by rw [e, hp] at nx; cases nx
theorem stage {p C T x o l dx : Addr} {Hpre Hs He : Hp} {im : List Nat} {Ts : List Addr} {ims : List (List Nat)} (np : Hpre p = none) (sp : Same Hpre Hs) (hl : PL p C Hs Ts ims) (se : Same Hs He)
    (hT : He T = some (.tup [.ref x, .ref o])) (hx : He x = some (.ins C dx (wF im.length l))) (hll : He l = some (.lst (im.map nv))) (ho : He o = some (.lst (im.map nv))) (n1 : T ≠ p) (n2 : x ≠ p) (n3 : o ≠ p) (n4 : l ≠ p) :
    Same Hpre (upd He p (.lst (Ts.map V.ref ++ [V.ref T]))) ∧ (upd He p (.lst (Ts.map V.ref ++ [V.ref T]))) p = some (.lst ((Ts ++ [T]).map V.ref)) ∧ PL p C (upd He p (.lst (Ts.map V.ref ++ [V.ref T]))) (Ts ++ [T]) (ims ++ [im]) :=
  ⟨mutS (sp.trans se) np, by rw [upd_same, List.map_append]; rfl, hl.more se ⟨x, o, l, dx, n1, n2, n3, n4, hT, hx, hll, ho⟩⟩
section
variable {P : Program} {w : World} {K : PySem.W.Frag} {mg : Str → Option Value} {base : Heap} {C : Addr}
abbrev s_law : Stmt := top 32
theorem sc_law : FnScope ["_law_script", "_law_row_here", "_law_size_here", "_law_one", "_law_two", "_law_three", "_law_k", "_law_a", "_law_b", "_law_c", "_law_both", "_law_pairs", "_law_wire_here", "_law_due"] ["_law_script"] (defScope s_law) := ⟨rfl, rfl, rfl, by decide +kernel, rfl, by decide +kernel, by decide +kernel⟩

def spLaw (K : PySem.W.Frag) : Sp := fun vs H Q _ => ∃ (a : Addr) (ns : List Int), vs = [.ref a] ∧ SqL K H a (ns.map V.int) ∧ ns.length ≤ 63 ∧ ∀ H', Q (.bl true) H'
theorem ok_law {f : Addr} {fd : FuncData} {cd : ClassData} {fo ro : Option Value} (F : Fun K "law" "law" s_law f fd) (T : WTop K mg C) (Op : OpC K C) (hcd : PySem.W.clsIn K C = some cd) (hmro : cd.mro = [.ref C, .type "object"])
    (hI1 : PySem.W.findIn K (.ref C) (dunderI "rshift") = some none) (hI2 : PySem.W.findIn K (.type "object") (dunderI "rshift") = some none) (hR : PySem.W.findIn K (.ref C) (dunderR "pow") = some none) (hp1 : fastLookup "int" (PySem.dunder "pow") = some fo) (hp2 : fastLookup "int" (dunderR "pow") = some ro)
    (D_l_cell : DefOk P w K mg base CX0 1 "_law_cell" ["_law_script", "_law_k"] [] (spCell K)) (D_l_row : DefOk P w K mg base CX0 1 "_law_row" ["_law_cell_here", "_law_sizes"] [] (spRow K))
    (D_l_size : DefOk P w K mg base CX0 1 "_law_size" ["_law_draw"] [] spSize) (D_l_drawn : DefOk P w K mg base CX0 2 "_law_drawn" ["_law_cell_here", "_law_n"] [] spDrawn)
    (D_l_wire : DefOk P w K mg base CX0 4 "_law_wire" ["_law_images"] [] (spLWire K C)) (D_l_behind : DefOk P w K mg base CX0 1 "_law_behind" ["_law_one", "_law_two"] [] (spBehind K))
    (D_l_back : DefOk P w K mg base CX0 1 "_law_back" ["_law_images"] [] (spBack K)) (D_l_times : DefOk P w K mg base CX0 2 "_law_times" ["_law_images", "_law_k"] [] (spLTimes K))
    (D_l_is_wire : DefOk P w K mg base CX0 3 "_law_is_wire" ["_law_wire_here", "_law_images"] [] (spIsWire K C)) (D_l_wrong_size : DefOk P w K mg base CX0 4 "_law_wrong_size" ["_law_one", "_law_two"] [] (spWrong C))
    (D_Wire_rshift : MethOk P w K mg base CX0 5 C "__rshift__" ["self", "other"] [] (spShift C)) (D_Wire_times : MethOk P w K mg base CX0 5 C "times" ["self", "k"] [] (spTimes C))
    (D_Wire_invert : MethOk P w K mg base CX0 6 C "__invert__" ["self"] [] (spInv C)) (D_Wire_pow : MethOk P w K mg base CX0 6 C "__pow__" ["self", "other"] [] (spTimes C)) :
    FnOk P w K mg base CX0 7 f fd ["_law_script"] (spLaw K) := by
  refine F.ok sc_law (fun vs H Q E h => ?_) (fun cdv A outer s H vs Q E hr h => ?_)
  · obtain ⟨a, ns, rfl, _⟩ := h; rfl
  · obtain ⟨a, ns, rfl, hS, hlen, q⟩ := h
    have hu2 : (A.deeper (envOfC "law" (defScope s_law) s.heap.objs.size f cdv)).units + 64 < cLine := by have := hr.un; omega
    refine ⟨_, (pss_cons (ps_set (i := 1) sc_law.nd rfl (.inl rfl) (pe_d D_l_row hr pass0 (pa_cons (pe_d D_l_cell hr pass0 (pa_cons (pv 0) (pa_cons pe_int pa_nil))) (pa_cons (pe_lst (pa_cons pe_int (pa_cons pe_int (pa_cons pe_int pa_nil)))) pa_nil))))
    (pss_cons (ps_set (i := 2) sc_law.nd rfl (.inl rfl) (pe_d D_l_size hr pass0 (pa_cons (pe_ix ix_list (pv 1) pe_int (fun _ _ => rfl)) pa_nil)))
    (pss_cons (ps_set (i := 3) sc_law.nd rfl (.inl rfl) (pe_d D_l_drawn hr pass0 (pa_cons (pe_d D_l_cell hr pass0 (pa_cons (pv 0) (pa_cons pe_int pa_nil))) (pa_cons (pv 2) pa_nil))))
    (pss_cons (ps_set (i := 4) sc_law.nd rfl (.inl rfl) (pe_d D_l_drawn hr pass0 (pa_cons (pe_d D_l_cell hr pass0 (pa_cons (pv 0) (pa_cons pe_int pa_nil))) (pa_cons (pv 2) pa_nil))))
    (pss_cons (ps_set (i := 5) sc_law.nd rfl (.inl rfl) (pe_d D_l_drawn hr pass0 (pa_cons (pe_d D_l_cell hr pass0 (pa_cons (pv 0) (pa_cons pe_int pa_nil))) (pa_cons (pe_op op_add pe_int (pe_op op_mod (pe_op op_add (pv 2) (pe_ix ix_list (pv 1) pe_int (fun _ _ => rfl))) pe_int)) pa_nil))))
    (pss_cons (ps_set (i := 6) sc_law.nd rfl (.inl rfl) (pe_op op_sub (pe_ix ix_list (pv 1) pe_int (fun _ _ => rfl)) pe_int))
    (pss_cons (ps_set (i := 7) sc_law.nd rfl (.inl rfl) (pe_d D_l_wire hr pass0 (pa_cons (pv 3) pa_nil)))
    (pss_cons (ps_set (i := 8) sc_law.nd rfl (.inl rfl) (pe_d D_l_wire hr pass0 (pa_cons (pv 4) pa_nil)))
    (pss_cons (ps_set (i := 9) sc_law.nd rfl (.inl rfl) (pe_d D_l_wire hr pass0 (pa_cons (pv 5) pa_nil)))
    (pss_cons (ps_set (i := 10) sc_law.nd rfl (.inl rfl) (pv 7))
    (pss_cons (ps_aug (i := 10) sc_law.nd rfl (.inl rfl) (pv 8) (op_ownI D_Wire_rshift Op hcd hmro hI1 hI2 hr pass0))
    (pss_cons (ps_set (i := 11) sc_law.nd rfl (.inl rfl) (pe_lst (pa_cons (pe_tup (pa_cons (pe_op (op_own D_Wire_rshift Op hr pass0) (pv 7) (pv 8)) (pa_cons (pe_d D_l_behind hr pass0 (pa_cons (pv 3) (pa_cons (pv 4) pa_nil))) pa_nil))) (pa_cons (pe_tup (pa_cons (pv 10) (pa_cons (pe_d D_l_behind hr pass0 (pa_cons (pv 3) (pa_cons (pv 4) pa_nil))) pa_nil))) pa_nil))))
    (pss_cons (ps_expr (pe_bm PySem.F.plainAttrs_list PySem.F.slot_list_append PySem.F.type_list_append mt_append (pv 11) (pa_cons (pe_tup (pa_cons (pe_un (un_inv D_Wire_invert hr pass0) (pv 7)) (pa_cons (pe_d D_l_back hr pass0 (pa_cons (pv 3) pa_nil)) pa_nil))) pa_nil)))
    (pss_cons (ps_expr (pe_bm PySem.F.plainAttrs_list PySem.F.slot_list_append PySem.F.type_list_append mt_append (pv 11) (pa_cons (pe_tup (pa_cons (pe_m D_Wire_times T.cl hr pass0 (pv 7) (pa_cons (pv 6) pa_nil)) (pa_cons (pe_d D_l_times hr pass0 (pa_cons (pv 3) (pa_cons (pv 6) pa_nil))) pa_nil))) pa_nil)))
    (pss_cons (ps_expr (pe_bm PySem.F.plainAttrs_list PySem.F.slot_list_append PySem.F.type_list_append mt_append (pv 11) (pa_cons (pe_tup (pa_cons (pe_op (op_ownN D_Wire_pow Op hR hp1 hp2 hr pass0) (pv 7) pe_int) (pa_cons (pe_listRg rfl (by rfl) T.list (prg_1 (by rfl) T.range (pv 2))) pa_nil))) pa_nil)))
    (pss_cons (ps_expr (pe_bm PySem.F.plainAttrs_list PySem.F.slot_list_append PySem.F.type_list_append mt_append (pv 11) (pa_cons (pe_tup (pa_cons (pe_op (op_ownN D_Wire_pow Op hR hp1 hp2 hr pass0) (pv 7) pe_int) (pa_cons (pv 3) pa_nil))) pa_nil)))
    (pss_cons (ps_expr (pe_bm PySem.F.plainAttrs_list PySem.F.slot_list_append PySem.F.type_list_append mt_append (pv 11) (pa_cons (pe_tup (pa_cons (pe_op (op_ownN D_Wire_pow Op hR hp1 hp2 hr pass0) (pv 7) pe_int) (pa_cons (pe_d D_l_times hr pass0 (pa_cons (pv 3) (pa_cons pe_int pa_nil))) pa_nil))) pa_nil)))
    (pss_cons (ps_expr (pe_bm PySem.F.plainAttrs_list PySem.F.slot_list_append PySem.F.type_list_append mt_append (pv 11) (pa_cons (pe_tup (pa_cons (pe_op (op_ownN D_Wire_pow Op hR hp1 hp2 hr pass0) (pv 7) pe_int) (pa_cons (pe_d D_l_times hr pass0 (pa_cons (pv 3) (pa_cons pe_int pa_nil))) pa_nil))) pa_nil)))
    (pss_cons (ps_expr (pe_bm PySem.F.plainAttrs_list PySem.F.slot_list_append PySem.F.type_list_append mt_append (pv 11) (pa_cons (pe_tup (pa_cons (pe_m D_Wire_times T.cl hr pass0 (pv 7) (pa_cons pe_int pa_nil)) (pa_cons (pe_listRg rfl (by rfl) T.list (prg_1 (by rfl) T.range (pv 2))) pa_nil))) pa_nil)))
    (pss_cons (ps_for PassesOwn.never rfl (pi_list (pv 11)) (pg_tup rfl (pgs_cons (pg_name (i := 12) sc_law.nd rfl (.inl rfl)) (pgs_cons (pg_name (i := 13) sc_law.nd rfl (.inl rfl)) pgs_nil))) (pss_one (ps_if (pt_not (pt_truth (pe_d D_l_is_wire hr pass0 (pa_cons (pv 12) (pa_cons (pv 13) pa_nil))) (by intro _; rfl))) (pss_one (ps_ret pe_bl)) pss_nil)))
    (pss_cons (ps_if (PW.pt (pw_or (pt_cmpR op_ne (pe_d D_l_wrong_size hr pass0 (pa_cons (pv 7) (pa_cons (pv 9) pa_nil))) (pe_callB call_len_seq (by rfl) T.len PySem.boot_len (pa_cons (pv 5) pa_nil)) (nomark _)) (pw_or1 (pt_cmpR op_ne (pe_d D_l_wrong_size hr pass0 (pa_cons (pv 9) (pa_cons (pv 7) pa_nil))) (pv 2) (nomark _))))) (pss_one (ps_ret pe_bl)) pss_nil)
    (pss_one (ps_ret (pe_and (pe_d D_l_is_wire hr pass0 (pa_cons (pv 7) (pa_cons (pv 3) pa_nil))) (pe_one (pe_d D_l_is_wire hr pass0 (pa_cons (pv 8) (pa_cons (pv 4) pa_nil)))))))))))))))))))))))))))), ?_⟩
    -- row
    refine ⟨_, rfl, a, ns, 3, rfl, hS, fun z1 => ⟨by show 3 ≤ sizeLine; decide, fun L1 nL1 => ?_⟩⟩
    have t1 : Same H (upd H L1 (.lst [.int 96, .int 121, .int 59])) := same_upd nL1
    refine ⟨z1, L1, [96, 121, 59], rfl, SqL.of upd_same, by decide, by decide, fun ds row0 H1 s1 nr0 hr0 hl hb => ?_⟩
    obtain ⟨d0, d1, d2, rfl⟩ : ∃ a b c, ds = [a, b, c] := match ds, hl with | [a, b, c], _ => ⟨a, b, c, rfl⟩
    have hd1 : d1 < 121 := hb 1 d1 121 rfl rfl
    have hd2 : d2 < 59 := hb 2 d2 59 rfl rfl
    have t2 : Same H H1 := t1.trans s1
    -- size
    refine ⟨_, rfl, row0, _, 0, nv d0, rfl, rfl, SqL.of hr0, atI_nat (j := 0) rfl, d0, rfl, fun n n1 n60 => ?_⟩
    -- one, two, three
    refine ⟨_, rfl, a, ns, 0, rfl, t2.seq hS, fun z2 => ⟨_, rfl, z2, n, rfl, by omega, fun im p1 H2 s2 np1 hp1 hI hn => ?_⟩⟩
    subst hn
    have t3 := t2.trans s2
    refine ⟨_, rfl, a, ns, 1, rfl, t3.seq hS, fun z3 => ⟨_, rfl, z3, im.length, rfl, by omega, fun jm p2 H3 s3 np2 hp2 hJ hm => ?_⟩⟩
    have t4 := t3.trans s3
    have hr3 := s3 _ _ (s2 _ _ hr0)
    refine ⟨_, rfl, a, ns, 2, rfl, t4.seq hS, fun z4 => ?_⟩
    have e3 : (1 + ((im.length : Int) + (d2 : Int)) % 60) = ((1 + (im.length + d2) % 60 : Nat) : Int) := by omega
    refine ⟨_, rfl, _, rfl, row0, _, 2, nv d2, rfl, rfl, SqL.of hr3, atI_nat (j := 2) rfl, _, _, rfl, rfl, _, _, rfl, rfl, (by show (0 : Int) < 60; decide), _, _, rfl, rfl, z4, 1 + (im.length + d2) % 60,
      (by show [V.int z4, V.int (1 + ((im.length : Int) + (d2 : Int)) % 60)] = [V.int z4, nv (1 + (im.length + d2) % 60)]; rw [e3]; rfl), by omega, fun km p3 H4 s4 np3 hp3 hK hk => ?_⟩
    have t5 := t4.trans s4
    have kn : km.length ≠ im.length := by omega
    -- k
    refine ⟨_, rfl, row0, _, 1, nv d1, rfl, rfl, SqL.of (s4 _ _ hr3), atI_nat (j := 1) rfl, _, _, rfl, rfl, ?_⟩
    -- the wires
    have h13 := s3 _ _ hp1
    have h14 := s4 _ _ h13
    have h24 := s4 _ _ hp2
    refine ⟨_, rfl, p1, im, rfl, SqL.of h14, hI, by omega, by omega, fun xa la H5 s5 nxa nla hA => ?_⟩
    refine ⟨_, rfl, p2, jm, rfl, SqL.of (s5 _ _ h24), hJ, by omega, by omega, fun xb lb H6 s6 nxb nlb hB => ?_⟩
    refine ⟨_, rfl, p3, km, rfl, SqL.of (s6 _ _ (s5 _ _ hp3)), hK, by omega, by omega, fun xc lc H7 s7 nxc nlc hC => ?_⟩
    conv in (List.set _ 8 _) => change ([some (V.ref a), some (V.ref row0), some (nv im.length), some (V.ref p1), some (V.ref p2), some (V.ref p3), some (V.int ((d1 : Int) - 60)), some (V.ref xa), some (V.ref xb), none, none, none, none, none] : List (Option V))
    have WA : WireAt C H7 xa im := WireAt.mono ⟨la, hA⟩ (s6.trans s7)
    have WB : WireAt C H7 xb jm := WireAt.mono ⟨lb, hB⟩ s7
    have WC : WireAt C H7 xc km := ⟨lc, hC⟩
    have q1 := s7 _ _ (s6 _ _ (s5 _ _ h14))
    have q2 := s7 _ _ (s6 _ _ (s5 _ _ h24))
    have q3 := s7 _ _ (s6 _ _ (s5 _ _ hp3))
    clear hA hB hC
    have ejm : jm.length = im.length := by omega
    -- both
    obtain ⟨la', ⟨dxa, ia⟩, ja⟩ := id WA
    obtain ⟨lb', ⟨dxb, ib⟩, jb⟩ := id WB
    refine ⟨_, rfl, _, rfl, _, rfl, xa, xb, dxa, dxb, _, _, rfl, rfl, ia, ib, xa, xb, im, jm, rfl, WA, WB, hI, hJ, ejm, by omega, by omega, fun x0 l0 H8 s8 nx0 nl0 hW0 => ⟨⟨_, rfl⟩, ?_⟩⟩
    -- the first two pairs
    have WA8 := WA.mono s8
    have WB8 := WB.mono s8
    refine ⟨_, rfl, _, rfl, xa, xb, dxa, dxb, _, _, rfl, rfl, s8 _ _ ia, s8 _ _ ib, xa, xb, im, jm, rfl, WA8, WB8, hI, hJ, ejm, by omega, by omega, fun x1 l1 H9 s9 nx1 nl1 hW1 => ⟨⟨_, rfl⟩, ?_⟩⟩
    refine ⟨_, rfl, _, rfl, p1, p2, im, jm, rfl, SqL.of (s9 _ _ (s8 _ _ q1)), SqL.of (s9 _ _ (s8 _ _ q2)), (fun x hx => by rw [ejm]; exact hI.lt x hx), by omega, fun o1 H10 s10 no1 ho1 => ?_⟩
    refine ⟨by show 2 ≤ sizeLine; decide, fun T1 nT1 => ?_⟩
    have sT1 := same_upd (o := .tup [V.ref x1, V.ref o1]) nT1
    have gT1 : (upd H10 T1 (.tup [V.ref x1, V.ref o1])) T1 = some (.tup [V.ref x1, V.ref o1]) := upd_same
    generalize upd H10 T1 (.tup [V.ref x1, V.ref o1]) = H11 at sT1 gT1 ⊢
    have s811 : Same H8 H11 := s9.trans (s10.trans sT1)
    refine ⟨_, rfl, _, rfl, _, rfl, p1, p2, im, jm, rfl, SqL.of (s811 _ _ (s8 _ _ q1)), SqL.of (s811 _ _ (s8 _ _ q2)), (fun x hx => by rw [ejm]; exact hI.lt x hx), by omega, fun o2 H12 s12 no2 ho2 => ?_⟩
    refine ⟨by show 2 ≤ sizeLine; decide, fun T2 nT2 => ?_⟩
    have sT2 := same_upd (o := .tup [V.ref x0, V.ref o2]) nT2
    have gT2 : (upd H12 T2 (.tup [V.ref x0, V.ref o2])) T2 = some (.tup [V.ref x0, V.ref o2]) := upd_same
    generalize upd H12 T2 (.tup [V.ref x0, V.ref o2]) = Hpre at sT2 gT2 ⊢
    refine ⟨by show 2 ≤ sizeLine; decide, fun p np => ?_⟩
    have s11p : Same H11 Hpre := s12.trans sT2
    have s8p : Same H8 Hpre := s811.trans s11p
    have s7p : Same H7 Hpre := s8.trans s8p
    obtain ⟨⟨dx0, i0⟩, j0⟩ := hW0
    obtain ⟨⟨dx1, i1⟩, j1⟩ := hW1
    have s9p : Same H9 Hpre := s10.trans (sT1.trans s11p)
    have B1 : ∀ u, PairB p C (upd Hpre p u) T1 (behind im jm) := fun u => .new np (s11p _ _ gT1) (s9p _ _ i1) (s9p _ _ j1) (s11p _ _ (sT1 _ _ ho1))
    have B2 : ∀ u, PairB p C (upd Hpre p u) T2 (behind im jm) := fun u => .new np gT2 (s8p _ _ i0) (s8p _ _ j0) (sT2 _ _ ho2)
    have sp : Same Hpre (upd Hpre p (.lst [V.ref T1, V.ref T2])) := same_upd np
    have hp : (upd Hpre p (.lst [V.ref T1, V.ref T2])) p = some (.lst (([T1, T2] : List Addr).map V.ref)) := upd_same
    have hPL : PL p C (upd Hpre p (.lst [V.ref T1, V.ref T2])) [T1, T2] [behind im jm, behind im jm] := ⟨rfl, fun i T m h1 h2 => by
      match i, h1, h2 with
      | 0, h1, h2 => cases h1; cases h2; exact B1 _
      | 1, h1, h2 => cases h1; cases h2; exact B2 _⟩
    generalize upd Hpre p (.lst [V.ref T1, V.ref T2]) = HS0 at sp hp hPL ⊢
    have WAp := WA.mono s7p
    have iap := s7p _ _ ia
    have q1p := s7p _ _ q1
    have np1' : p1 ≠ p := ne_of_none q1p np
    conv in (List.set _ 10 _) => change ([some (V.ref a), some (V.ref row0), some (nv im.length), some (V.ref p1), some (V.ref p2), some (V.ref p3), some (V.int ((d1 : Int) - 60)), some (V.ref xa), some (V.ref xb), some (V.ref xc), some (V.ref x0), none, none, none] : List (Option V))
    -- inv back
    refine ⟨_, rfl, .inl ⟨rfl, _, SqL.of hp⟩, _, rfl, xa, dxa, _, rfl, (sp _ _ iap), xa, im, rfl, (WAp.mono sp), hI, by omega, by omega, fun y0 m0 Ha0 sa0 nx0 nl0 hx0 => ?_⟩
    refine ⟨_, rfl, p1, im, rfl, (SqL.of (sa0 _ _ (sp _ _ q1p))), hI, by omega, fun r0 Hb0 sb0 no0 ho0 => ?_⟩
    refine ⟨by show 2 ≤ sizeLine; decide, fun U0 nT0_ => ?_⟩
    obtain ⟨⟨dy0, iy0⟩, jy0⟩ := hx0
    have hp0' := sa0 _ _ hp
    have hp0'' := sb0 _ _ hp0'
    have sc0 := same_upd (o := .tup [V.ref y0, V.ref r0]) nT0_
    refine ⟨p, _, _, rfl, rfl, sc0 _ _ hp0'', by show 2 < sizeLine; decide, ?_⟩
    obtain ⟨sp1, hp1, hPL1⟩ := stage (im := backL im) np sp hPL (sa0.trans (sb0.trans sc0)) (upd_same : (upd Hb0 U0 (.tup [V.ref y0, V.ref r0])) U0 = _) (sc0 _ _ (sb0 _ _ iy0)) (sc0 _ _ (sb0 _ _ jy0)) (sc0 _ _ ho0) (ne_fresh hp0'' nT0_) (ne_fresh hp nx0) (ne_fresh (sa0 _ _ hp) no0) (ne_fresh hp nl0)
    generalize upd (upd Hb0 U0 (.tup [V.ref y0, V.ref r0])) p (.lst (([T1, T2] : List Addr).map V.ref ++ [V.ref U0])) = HS1 at sp1 hp1 hPL1 ⊢
    -- meth k times k
    refine ⟨_, rfl, .inl ⟨rfl, _, SqL.of hp1⟩, _, rfl, xa, dxa, _, rfl, (sp1 _ _ iap), wF_no _ _ (by decide +kernel) (by decide +kernel), _, rfl, xa, im, _, rfl, (WAp.mono sp1), hI, by omega, by omega, fun y1 m1 Ha1 sa1 nx1 nl1 hx1 => ?_⟩
    refine ⟨_, rfl, _, rfl, p1, im, _, rfl, (SqL.of (sa1 _ _ (sp1 _ _ q1p))), hI, by omega, by omega, by omega, fun r1 Hb1 sb1 no1 ho1 => ?_⟩
    refine ⟨by show 2 ≤ sizeLine; decide, fun U1 nT1_ => ?_⟩
    obtain ⟨⟨dy1, iy1⟩, jy1⟩ := hx1
    have hp1' := sa1 _ _ hp1
    have hp1'' := sb1 _ _ hp1'
    have sc1 := same_upd (o := .tup [V.ref y1, V.ref r1]) nT1_
    refine ⟨p, _, _, rfl, rfl, sc1 _ _ hp1'', by show 3 < sizeLine; decide, ?_⟩
    obtain ⟨sp2, hp2, hPL2⟩ := stage (im := timesL im ((d1 : Int) - 60)) np sp1 hPL1 (sa1.trans (sb1.trans sc1)) (upd_same : (upd Hb1 U1 (.tup [V.ref y1, V.ref r1])) U1 = _) (sc1 _ _ (sb1 _ _ iy1)) (sc1 _ _ (sb1 _ _ jy1)) (sc1 _ _ ho1) (ne_fresh hp1'' nT1_) (ne_fresh hp1 nx1) (ne_fresh (sa1 _ _ hp1) no1) (ne_fresh hp1 nl1)
    generalize upd (upd Hb1 U1 (.tup [V.ref y1, V.ref r1])) p (.lst ((([T1, T2] : List Addr) ++ [U0]).map V.ref ++ [V.ref U1])) = HS2 at sp2 hp2 hPL2 ⊢
    -- pow 0 range
    refine ⟨_, rfl, .inl ⟨rfl, _, SqL.of hp2⟩, _, rfl, xa, dxa, _, 0, rfl, rfl, (sp2 _ _ iap), xa, im, 0, rfl, (WAp.mono sp2), hI, by omega, by omega, fun y2 m2 Ha2 sa2 nx2 nl2 hx2 => ⟨⟨_, rfl⟩, ?_⟩⟩
    rw [timesL_zero] at hx2
    refine ⟨_, rfl, _, rfl, RgOk.of_le (by omega) (by omega) (by omega) (by omega), fun r2 no2 => ?_⟩
    rw [rgV_nat]
    have sb2 := same_upd (o := .lst ((List.range im.length).map nv)) no2
    have ho2 : (upd Ha2 r2 (.lst ((List.range im.length).map nv))) r2 = some (.lst ((List.range im.length).map nv)) := upd_same
    generalize upd Ha2 r2 (.lst ((List.range im.length).map nv)) = Hb2 at sb2 ho2 ⊢
    refine ⟨by show 2 ≤ sizeLine; decide, fun U2 nT2_ => ?_⟩
    obtain ⟨⟨dy2, iy2⟩, jy2⟩ := hx2
    have hp2' := sa2 _ _ hp2
    have hp2'' := sb2 _ _ hp2'
    have sc2 := same_upd (o := .tup [V.ref y2, V.ref r2]) nT2_
    refine ⟨p, _, _, rfl, rfl, sc2 _ _ hp2'', by show 4 < sizeLine; decide, ?_⟩
    obtain ⟨sp3, hp3, hPL3⟩ := stage (im := List.range im.length) np sp2 hPL2 (sa2.trans (sb2.trans sc2)) (upd_same : (upd Hb2 U2 (.tup [V.ref y2, V.ref r2])) U2 = _) (sc2 _ _ (sb2 _ _ iy2)) (sc2 _ _ (sb2 _ _ jy2)) (sc2 _ _ ho2) (ne_fresh hp2'' nT2_) (ne_fresh hp2 nx2) (ne_fresh (sa2 _ _ hp2) no2) (ne_fresh hp2 nl2)
    generalize upd (upd Hb2 U2 (.tup [V.ref y2, V.ref r2])) p (.lst (((([T1, T2] : List Addr) ++ [U0]) ++ [U1]).map V.ref ++ [V.ref U2])) = HS3 at sp3 hp3 hPL3 ⊢
    -- pow 1 one
    refine ⟨_, rfl, .inl ⟨rfl, _, SqL.of hp3⟩, _, rfl, xa, dxa, _, 1, rfl, rfl, (sp3 _ _ iap), xa, im, 1, rfl, (WAp.mono sp3), hI, by omega, by omega, fun y3 m3 Ha3 sa3 nx3 nl3 hx3 => ⟨⟨_, rfl⟩, ?_⟩⟩
    rw [timesL_one] at hx3
    refine ⟨_, rfl, ?_⟩
    have sb3 : Same Ha3 Ha3 := Same.refl _
    have ho3 := sa3 _ _ (sp3 _ _ q1p)
    refine ⟨by show 2 ≤ sizeLine; decide, fun U3 nT3_ => ?_⟩
    obtain ⟨⟨dy3, iy3⟩, jy3⟩ := hx3
    have hp3' := sa3 _ _ hp3
    have hp3'' := sb3 _ _ hp3'
    have sc3 := same_upd (o := .tup [V.ref y3, V.ref p1]) nT3_
    refine ⟨p, _, _, rfl, rfl, sc3 _ _ hp3'', by show 5 < sizeLine; decide, ?_⟩
    obtain ⟨sp4, hp4, hPL4⟩ := stage (im := im) np sp3 hPL3 (sa3.trans (sb3.trans sc3)) (upd_same : (upd Ha3 U3 (.tup [V.ref y3, V.ref p1])) U3 = _) (sc3 _ _ (sb3 _ _ iy3)) (sc3 _ _ (sb3 _ _ jy3)) (sc3 _ _ ho3) (ne_fresh hp3'' nT3_) (ne_fresh hp3 nx3) np1' (ne_fresh hp3 nl3)
    generalize upd (upd Ha3 U3 (.tup [V.ref y3, V.ref p1])) p (.lst ((((([T1, T2] : List Addr) ++ [U0]) ++ [U1]) ++ [U2]).map V.ref ++ [V.ref U3])) = HS4 at sp4 hp4 hPL4 ⊢
    -- pow 2 times 2
    refine ⟨_, rfl, .inl ⟨rfl, _, SqL.of hp4⟩, _, rfl, xa, dxa, _, 2, rfl, rfl, (sp4 _ _ iap), xa, im, 2, rfl, (WAp.mono sp4), hI, by omega, by omega, fun y4 m4 Ha4 sa4 nx4 nl4 hx4 => ⟨⟨_, rfl⟩, ?_⟩⟩
    refine ⟨_, rfl, p1, im, 2, rfl, (SqL.of (sa4 _ _ (sp4 _ _ q1p))), hI, by omega, by omega, by omega, fun r4 Hb4 sb4 no4 ho4 => ?_⟩
    refine ⟨by show 2 ≤ sizeLine; decide, fun U4 nT4_ => ?_⟩
    obtain ⟨⟨dy4, iy4⟩, jy4⟩ := hx4
    have hp4' := sa4 _ _ hp4
    have hp4'' := sb4 _ _ hp4'
    have sc4 := same_upd (o := .tup [V.ref y4, V.ref r4]) nT4_
    refine ⟨p, _, _, rfl, rfl, sc4 _ _ hp4'', by show 6 < sizeLine; decide, ?_⟩
    obtain ⟨sp5, hp5, hPL5⟩ := stage (im := timesL im 2) np sp4 hPL4 (sa4.trans (sb4.trans sc4)) (upd_same : (upd Hb4 U4 (.tup [V.ref y4, V.ref r4])) U4 = _) (sc4 _ _ (sb4 _ _ iy4)) (sc4 _ _ (sb4 _ _ jy4)) (sc4 _ _ ho4) (ne_fresh hp4'' nT4_) (ne_fresh hp4 nx4) (ne_fresh (sa4 _ _ hp4) no4) (ne_fresh hp4 nl4)
    generalize upd (upd Hb4 U4 (.tup [V.ref y4, V.ref r4])) p (.lst (((((([T1, T2] : List Addr) ++ [U0]) ++ [U1]) ++ [U2]) ++ [U3]).map V.ref ++ [V.ref U4])) = HS5 at sp5 hp5 hPL5 ⊢
    -- pow 5 times 5
    refine ⟨_, rfl, .inl ⟨rfl, _, SqL.of hp5⟩, _, rfl, xa, dxa, _, 5, rfl, rfl, (sp5 _ _ iap), xa, im, 5, rfl, (WAp.mono sp5), hI, by omega, by omega, fun y5 m5 Ha5 sa5 nx5 nl5 hx5 => ⟨⟨_, rfl⟩, ?_⟩⟩
    refine ⟨_, rfl, p1, im, 5, rfl, (SqL.of (sa5 _ _ (sp5 _ _ q1p))), hI, by omega, by omega, by omega, fun r5 Hb5 sb5 no5 ho5 => ?_⟩
    refine ⟨by show 2 ≤ sizeLine; decide, fun U5 nT5_ => ?_⟩
    obtain ⟨⟨dy5, iy5⟩, jy5⟩ := hx5
    have hp5' := sa5 _ _ hp5
    have hp5'' := sb5 _ _ hp5'
    have sc5 := same_upd (o := .tup [V.ref y5, V.ref r5]) nT5_
    refine ⟨p, _, _, rfl, rfl, sc5 _ _ hp5'', by show 7 < sizeLine; decide, ?_⟩
    obtain ⟨sp6, hp6, hPL6⟩ := stage (im := timesL im 5) np sp5 hPL5 (sa5.trans (sb5.trans sc5)) (upd_same : (upd Hb5 U5 (.tup [V.ref y5, V.ref r5])) U5 = _) (sc5 _ _ (sb5 _ _ iy5)) (sc5 _ _ (sb5 _ _ jy5)) (sc5 _ _ ho5) (ne_fresh hp5'' nT5_) (ne_fresh hp5 nx5) (ne_fresh (sa5 _ _ hp5) no5) (ne_fresh hp5 nl5)
    generalize upd (upd Hb5 U5 (.tup [V.ref y5, V.ref r5])) p (.lst ((((((([T1, T2] : List Addr) ++ [U0]) ++ [U1]) ++ [U2]) ++ [U3]) ++ [U4]).map V.ref ++ [V.ref U5])) = HS6 at sp6 hp6 hPL6 ⊢
    -- meth 0 range
    refine ⟨_, rfl, .inl ⟨rfl, _, SqL.of hp6⟩, _, rfl, xa, dxa, _, rfl, (sp6 _ _ iap), wF_no _ _ (by decide +kernel) (by decide +kernel), xa, im, 0, rfl, (WAp.mono sp6), hI, by omega, by omega, fun y6 m6 Ha6 sa6 nx6 nl6 hx6 => ?_⟩
    rw [timesL_zero] at hx6
    refine ⟨_, rfl, _, rfl, RgOk.of_le (by omega) (by omega) (by omega) (by omega), fun r6 no6 => ?_⟩
    rw [rgV_nat]
    have sb6 := same_upd (o := .lst ((List.range im.length).map nv)) no6
    have ho6 : (upd Ha6 r6 (.lst ((List.range im.length).map nv))) r6 = some (.lst ((List.range im.length).map nv)) := upd_same
    generalize upd Ha6 r6 (.lst ((List.range im.length).map nv)) = Hb6 at sb6 ho6 ⊢
    refine ⟨by show 2 ≤ sizeLine; decide, fun U6 nT6_ => ?_⟩
    obtain ⟨⟨dy6, iy6⟩, jy6⟩ := hx6
    have hp6' := sa6 _ _ hp6
    have hp6'' := sb6 _ _ hp6'
    have sc6 := same_upd (o := .tup [V.ref y6, V.ref r6]) nT6_
    refine ⟨p, _, _, rfl, rfl, sc6 _ _ hp6'', by show 8 < sizeLine; decide, ?_⟩
    obtain ⟨sp7, hp7, hPL7⟩ := stage (im := List.range im.length) np sp6 hPL6 (sa6.trans (sb6.trans sc6)) (upd_same : (upd Hb6 U6 (.tup [V.ref y6, V.ref r6])) U6 = _) (sc6 _ _ (sb6 _ _ iy6)) (sc6 _ _ (sb6 _ _ jy6)) (sc6 _ _ ho6) (ne_fresh hp6'' nT6_) (ne_fresh hp6 nx6) (ne_fresh (sa6 _ _ hp6) no6) (ne_fresh hp6 nl6)
    generalize upd (upd Hb6 U6 (.tup [V.ref y6, V.ref r6])) p (.lst (((((((([T1, T2] : List Addr) ++ [U0]) ++ [U1]) ++ [U2]) ++ [U3]) ++ [U4]) ++ [U5]).map V.ref ++ [V.ref U6])) = HS7 at sp7 hp7 hPL7 ⊢
    have hlen : ∀ m ∈ ((((((([behind im jm, behind im jm] ++ [backL im]) ++ [timesL im ((d1 : Int) - 60)]) ++ [List.range im.length]) ++ [im]) ++ [timesL im 2]) ++ [timesL im 5]) ++ [List.range im.length]), m.length = im.length := by
      intro m hm
      simp only [List.mem_append, List.mem_cons, List.mem_singleton, List.not_mem_nil, or_false] at hm
      rcases hm with (((((((h | h) | h) | h) | h) | h) | h) | h) | h <;> subst h
      · exact behind_len im jm
      · exact behind_len im jm
      · exact backL_len im
      · exact timesL_len im _
      · exact List.length_range
      · rfl
      · exact timesL_len im _
      · exact timesL_len im _
      · exact List.length_range
    generalize hTs : (((((((([T1, T2] : List Addr) ++ [U0]) ++ [U1]) ++ [U2]) ++ [U3]) ++ [U4]) ++ [U5]) ++ [U6]) = Ts at hp7 hPL7
    generalize hims : ((((((([behind im jm, behind im jm] ++ [backL im]) ++ [timesL im ((d1 : Int) - 60)]) ++ [List.range im.length]) ++ [im]) ++ [timesL im 2]) ++ [timesL im 5]) ++ [List.range im.length]) = ims at hPL7 hlen
    -- for wire, due in pairs
    refine ⟨_, rfl, p, rfl, ⟨_, SqL.of hp7⟩, for_list (K := K) (a := p) (xs := Ts.map V.ref) (fun i σ H' => ∃ v12 v13 : Option V, σ = [some (V.ref a), some (V.ref row0), some (nv im.length), some (V.ref p1), some (V.ref p2), some (V.ref p3), some (V.int ((d1 : Int) - 60)), some (V.ref xa), some (V.ref xb), some (V.ref xc), some (V.ref x0), some (V.ref p), v12, v13] ∧ Same HS7 H') ⟨none, none, rfl, fun _ _ h => h⟩ (fun i σ H' _ ⟨_, _, _, sw⟩ => SqL.of (sw _ _ hp7)) ?_ ?_⟩
    · rintro i y σ H' hi ⟨v12, v13, rfl, sw⟩
      obtain ⟨U, hU, rfl⟩ : ∃ U, Ts[i]? = some U ∧ y = V.ref U := by
        rw [List.getElem?_map] at hi
        cases e : Ts[i]? with
        | none => rw [e] at hi; cases hi
        | some b => rw [e] at hi; exact ⟨b, rfl, (Option.some.inj hi).symm⟩
      obtain ⟨m, hm'⟩ : ∃ m, ims[i]? = some m := ⟨_, List.getElem?_eq_getElem (by rw [← hPL7.1]; exact (List.getElem?_eq_some_iff.mp hU).1)⟩
      have ml := hlen m (List.mem_of_getElem? hm')
      obtain ⟨x, o, l, dx, _, _, _, _, g1, g2, g3, g4⟩ := hPL7.2 i U m hU hm'
      refine ⟨U, _, rfl, SqT.of (sw _ _ g1), rfl, _, _, rfl, _, _, rfl, rfl, ?_⟩
      exact ⟨_, rfl, _, rfl, x, o, m, rfl, ⟨l, ⟨dx, sw _ _ g2⟩, sw _ _ g3⟩, SqL.of (sw _ _ g4), by omega, fun H'' s'' => ⟨true, rfl, iteF ⟨_, _, rfl, sw.trans s''⟩⟩⟩
    · rintro σ H' ⟨v12, v13, rfl, sw⟩
      have se : Same H7 H' := s7p.trans (sp7.trans sw)
      have WAe := WA.mono se
      have WBe := WB.mono se
      have WCe := WC.mono se
      refine ⟨_, rfl, _, rfl, xa, xc, im, km, rfl, WAe, WCe, kn, fun Hw sv => ⟨_, rfl, p3, _, rfl, .inl (SqL.of (sv _ _ (se _ _ q3))), rfl, _, rfl, ?_⟩⟩
      have e0 : ∀ z : Nat, decide (nv z = V.int ((z : Nat) : Int)) = true := fun z => decide_eq_true rfl
      rw [List.length_map, e0]
      refine iteF ?_
      refine ⟨_, rfl, _, rfl, xc, xa, km, im, rfl, WCe.mono sv, WAe.mono sv, kn.symm, fun Hv sv2 => ⟨_, rfl, rfl, _, rfl, ?_⟩⟩
      have e1 : decide (nv im.length = nv im.length) = true := decide_eq_true rfl
      rw [e1]
      refine iteF ?_
      have sz := sv.trans sv2
      exact ⟨_, rfl, _, rfl, xa, p1, im, rfl, WAe.mono sz, SqL.of (sz _ _ (se _ _ q1)), by omega, fun Hy sy => ⟨true, rfl, iteT ⟨_, rfl, _, rfl, xb, p2, jm, rfl, (WBe.mono sz).mono sy, SqL.of (sy _ _ (sz _ _ (se _ _ q2))), by omega, fun Hz _ => q Hz⟩⟩⟩
end
/-! ### the errors' __init__ -/
section
variable {P : Program} {w : World} {K : PySem.W.Frag} {mg : Str → Option Value} {base : Heap} {C : Addr}
abbrev s_WrongSize_init : Stmt := inClass (top 7) 0
theorem sc_WrongSize_init : FnScope ["self", "size"] ["self", "size"] (defScope s_WrongSize_init) := ⟨rfl, rfl, rfl, by decide +kernel, rfl, by decide +kernel, by decide +kernel⟩

theorem ok_WrongSize_init {f : Addr} {fd : FuncData} (F : Fun K "__init__" "WrongSize.__init__" s_WrongSize_init f fd) (T : ErrC K C) (hno : PySem.W.findIn K (.ref C) "size" = some none) : FnOk P w K mg base CX0 1 f fd ["self", "size"] (spErr C "size") := by
  refine F.ok sc_WrongSize_init (fun vs H Q E h => ?_) (fun cdv A outer s H vs Q E hr h => ?_)
  · obtain ⟨a, v, rfl, _⟩ := h; rfl
  · obtain ⟨a, v, rfl, ha, q⟩ := h
    exact ⟨_, pss_one (ps_ost (pv 0) (pv 1)), _, rfl, _, rfl, a, C, rfl, T.oex, hno, .inl ⟨ha, fun dx n ne => q dx n ne⟩⟩
end
/-! ### the classes in the written part -/
abbrev veT : List Value := [.type "ValueError", .type "Exception", .type "BaseException", .type "object"]
def ErrAt (K : PySem.W.Frag) (C W : Addr) : Prop := ∃ nm q N bs sn sub ab col dd k0 k1 k2 k3 k5, K.lookup C = some (excClassObj nm q C N bs (.ref W :: veT) true sn sub ab col dd k0 k1 k2 k3 k5 "ValueError.__new__")
def ErrAt' (K : PySem.W.Frag) (C : Addr) : Prop := ∃ nm q N bs bm sn sub ab col dd k0 k1 k2 k3 k5, K.lookup C = some (excClassObj nm q C N bs bm true sn sub ab col dd k0 k1 k2 k3 k5 "ValueError.__new__")
section
variable {K : PySem.W.Frag} {C D W : Addr}
theorem ErrAt.to (h : ErrAt K C W) : ErrAt' K C := by
  obtain ⟨nm, q, N, bs, sn, sub, ab, col, dd, k0, k1, k2, k3, k5, e⟩ := h
  exact ⟨nm, q, N, bs, _, sn, sub, ab, col, dd, k0, k1, k2, k3, k5, e⟩
theorem ErrAt'.ok (h : ErrAt' K C) : ((PySem.W.clsIn K C).isSome && PySem.W.typeIn K (.ref C) == some (.type "type")) = true := by
  obtain ⟨nm, q, N, bs, bm, sn, sub, ab, col, dd, k0, k1, k2, k3, k5, e⟩ := h
  have ty : PySem.W.typeIn K (.ref C) = some (.type "type") := by
    show (K.lookup C).map (·.cls) = _
    rw [e]
    rfl
  rw [ty]
  unfold PySem.W.clsIn
  rw [e]
  simp
theorem ErrAt.sub (h : ErrAt K C W) (v : Value) : PySem.W.subIn K (.ref C) v = some ((Value.ref C :: .ref W :: veT).contains v) := by
  obtain ⟨nm, q, N, bs, sn, sub, ab, col, dd, k0, k1, k2, k3, k5, e⟩ := h
  show PySem.W.mroIn K C v = _
  unfold PySem.W.mroIn PySem.W.clsIn
  rw [e]
  rfl
theorem ErrAt.errC (h : ErrAt K C W) (sa : PySem.W.findIn K (.ref C) "__setattr__" = some (some (.builtin "object.__setattr__"))) (ga : PySem.W.findIn K (.ref C) "__getattribute__" = some (some (.builtin "BaseException.__getattribute__")))
    (gg : PySem.W.findIn K (.ref C) "__getattr__" = some none) (cl : PySem.W.findIn K (.ref C) "__class__" = some (some (.builtin "object.__class__"))) (kc : PySem.W.keepIn K (.ref C) = true)
    (hget : PySem.W.specialIn K (.builtin "object.__class__") "__get__" = some (some (.builtin "getset_descriptor.__get__"))) (htk : PySem.W.takesIn K (.builtin "object.__class__") = some true) : ErrC K C := by
  have b : PySem.W.subIn K (.ref C) (.type "BaseException") = some true := by
    rw [h.sub]
    simp
  have o : PySem.W.mroIn K C (.type "object") = some true := by
    have z := h.sub (.type "object")
    have e : (Value.ref C :: .ref W :: veT).contains (.type "object") = true := by simp
    rw [e] at z
    exact z
  obtain ⟨nm, q, N, bs, sn, sub, ab, col, dd, k0, k1, k2, k3, k5, e⟩ := id h
  have hd : PySem.W.hasDictIn K C = true := by unfold PySem.W.hasDictIn PySem.W.clsIn; rw [e]; rfl
  have ty : PySem.W.typeIn K (.ref C) = some (.type "type") := by show (K.lookup C).map (·.cls) = _; rw [e]; rfl
  exact ⟨⟨⟨nm, q, N, bs, _, sn, sub, ab, col, dd, k0, k1, k2, k3, k5, e, (by show PySem.HandSPX.refsVE veT = true; decide +kernel)⟩, sa, b, ty, kc⟩, ⟨ga, gg, b, hd⟩, ⟨ga, gg, b, hd, cl, hget, htk, o⟩⟩
theorem ErrAt.kitV (h : ErrAt K C W) : PySem.W.kitOne K (.ref C) (.type "ValueError") = some true := by
  unfold PySem.W.kitOne PySem.W.kitCls
  rw [if_neg (by simp)]
  show (if PySem.W.kitMeta "ValueError" = true then _ else _) = _
  rw [if_pos (by decide +kernel), h.sub]
  simp
theorem ErrAt.kitW (h : ErrAt K C W) (hW : ErrAt' K W) : PySem.W.kitOne K (.ref C) (.ref W) = some true := by
  unfold PySem.W.kitOne PySem.W.kitCls
  by_cases c : C = W
  · rw [if_pos (by rw [c]; exact beq_self_eq_true _)]
  · rw [if_neg (by intro z; exact c (Value.ref.inj (beq_iff_eq.mp z)))]
    show (if _ then _ else _) = _
    rw [if_pos hW.ok, h.sub]
    simp
theorem ErrAt.kitD (h : ErrAt K C W) (hD : ErrAt K D W) (ne : D ≠ W) : PySem.W.kitOne K (.ref C) (.ref D) = some (decide (D = C)) := by
  unfold PySem.W.kitOne PySem.W.kitCls
  by_cases c : C = D
  · rw [if_pos (by rw [c]; exact beq_self_eq_true _), decide_eq_true c.symm]
  · rw [if_neg (by intro z; exact c (Value.ref.inj (beq_iff_eq.mp z)))]
    show (if _ then _ else _) = _
    rw [if_pos hD.to.ok, h.sub, decide_eq_false (fun z => c z.symm)]
    have : (Value.ref C :: .ref W :: veT).contains (.ref D) = false := by
      rw [Bool.eq_false_iff]
      intro z
      rw [List.contains_iff_mem] at z
      rcases List.mem_cons.mp z with z | z
      · exact c (Value.ref.inj z).symm
      rcases List.mem_cons.mp z with z | z
      · exact ne (Value.ref.inj z)
      · simp at z
    rw [this]
theorem nod_ne {l : List Addr} {w : Addr} (h : (l ++ [w]).Nodup) {i j : Nat} (hi : i < l.length) (hj : j < l.length) : decide (l.getD j 0 = l.getD i 0) = decide (j = i) ∧ l.getD j 0 ≠ w := by
  have hl := (List.nodup_append.mp h).1
  have gi : l.getD i 0 = l[i] := by rw [List.getD_eq_getElem?_getD, List.getElem?_eq_getElem hi]; rfl
  have gj : l.getD j 0 = l[j] := by rw [List.getD_eq_getElem?_getD, List.getElem?_eq_getElem hj]; rfl
  constructor
  · by_cases c : j = i
    · subst c
      rw [decide_eq_true rfl, decide_eq_true rfl]
    · rw [decide_eq_false c, decide_eq_false]
      rw [gi, gj]
      intro z
      exact c ((List.getElem_inj hl).mp z)
  · rw [gj]
    intro z
    exact (List.nodup_append.mp h).2.2 _ (List.getElem_mem hj) _ (List.mem_singleton.mpr rfl) z
theorem ErrAt.kit {l : List Addr} {i j : Nat} (h : ErrAt K (l.getD i 0) W) (hD : ErrAt K (l.getD j 0) W) (hi : i < l.length) (hj : j < l.length) (nod : (l ++ [W]).Nodup) :
    PySem.W.kitOne K (.ref (l.getD i 0)) (.ref (l.getD j 0)) = some (decide (j = i)) := by
  obtain ⟨a, b⟩ := nod_ne nod hi hj
  rw [h.kitD hD b, a]
end
theorem ErrAt.exm {K : PySem.W.Frag} {C W : Addr} (h : ErrAt K C W) : PySem.W.exmOne K (.ref C) (.ref C) = some true := by
  have a : (PySem.W.subIn K (.ref C) (.type "BaseException") == some true) = true := by rw [h.sub]; simp
  unfold PySem.W.exmOne
  rw [if_pos a]
  unfold PySem.W.kitCls
  show (if _ then _ else _) = _
  rw [if_pos h.to.ok, h.sub]
  simp
theorem d_irs : dunderI "rshift" = ("__irshift__" : Str) := by decide +kernel
theorem d_rpw : dunderR "pow" = ("__rpow__" : Str) := by decide +kernel
theorem no_irs {K : PySem.W.Frag} : PySem.W.findIn K (.type "object") (dunderI "rshift") = some none := by
  show fastLookup "object" (dunderI "rshift") = some none
  decide +kernel
theorem int_pow : ∃ fo, fastLookup "int" (PySem.dunder "pow") = some fo := Option.isSome_iff_exists.mp (by decide +kernel)
theorem int_rpow : ∃ fo, fastLookup "int" (dunderR "pow") = some fo := Option.isSome_iff_exists.mp (by decide +kernel)
theorem all_mk {l : PySem.W.OpenLaw} {w : World} {K : PySem.W.Frag} {h : Heap} {mg : Str → Option Value} {fa C_Wire C_WireError C_WrongSize f_l_cell f_l_row f_l_drawn f_l_size f_l_rings f_moves_of T_moves_of f_rings_of f_Wire_init f_Wire_rings f_wire_of f_Wire_times f_Wire_getitem f_Wire_rshift f_Wire_invert f_Wire_pow f_l_wire f_l_behind f_l_back f_l_times f_l_is_wire f_l_wrong_size f_WrongSize_init f_law : Addr} (X : K.In h) (G : h.Ns mainGlobals mg) (hfa : mg "law" = some (.ref fa))
    {nm_WireError qn_WireError : Str} {N_WireError : Addr} {bs_WireError : List Value} {sn_WireError : List Str} {sub_WireError : List Value} {ab_WireError : Bool} {col_WireError : Option Bool} {dd_WireError : Option Addr} {k0_WireError k1_WireError k2_WireError k3_WireError k5_WireError : Option Value}
    {nm_WrongSize qn_WrongSize : Str} {N_WrongSize : Addr} {bs_WrongSize : List Value} {sn_WrongSize : List Str} {sub_WrongSize : List Value} {ab_WrongSize : Bool} {col_WrongSize : Option Bool} {dd_WrongSize : Option Addr} {k0_WrongSize k1_WrongSize k2_WrongSize k3_WrongSize k5_WrongSize : Option Value}
    {cdW : ClassData}
    {od_l_cell an_l_cell : Option Addr} {sl_l_cell : Array (Option Value)} {oc_l_cell kV_l_cell dc_l_cell pm_l_cell cd_l_cell ct_l_cell : Value}
    {od_l_row an_l_row : Option Addr} {sl_l_row : Array (Option Value)} {oc_l_row kV_l_row dc_l_row pm_l_row cd_l_row ct_l_row : Value}
    {od_l_drawn an_l_drawn : Option Addr} {sl_l_drawn : Array (Option Value)} {oc_l_drawn kV_l_drawn dc_l_drawn pm_l_drawn cd_l_drawn ct_l_drawn : Value}
    {od_l_size an_l_size : Option Addr} {sl_l_size : Array (Option Value)} {oc_l_size kV_l_size dc_l_size pm_l_size cd_l_size ct_l_size : Value}
    {od_l_rings an_l_rings : Option Addr} {sl_l_rings : Array (Option Value)} {oc_l_rings kV_l_rings dc_l_rings pm_l_rings cd_l_rings ct_l_rings : Value}
    {od_moves_of an_moves_of : Option Addr} {sl_moves_of : Array (Option Value)} {oc_moves_of kV_moves_of dc_moves_of pm_moves_of cd_moves_of ct_moves_of : Value}
    {oT_moves_of : Value} {dT_moves_of : Option Addr} {nT_moves_of : Nat} {sT_moves_of : Array (Option Value)}
    {od_rings_of an_rings_of : Option Addr} {sl_rings_of : Array (Option Value)} {oc_rings_of kV_rings_of dc_rings_of pm_rings_of cd_rings_of ct_rings_of : Value}
    {od_Wire_init an_Wire_init : Option Addr} {sl_Wire_init : Array (Option Value)} {oc_Wire_init kV_Wire_init dc_Wire_init pm_Wire_init cd_Wire_init ct_Wire_init : Value}
    {od_Wire_rings an_Wire_rings : Option Addr} {sl_Wire_rings : Array (Option Value)} {oc_Wire_rings kV_Wire_rings dc_Wire_rings pm_Wire_rings cd_Wire_rings ct_Wire_rings : Value}
    {od_wire_of an_wire_of : Option Addr} {sl_wire_of : Array (Option Value)} {oc_wire_of kV_wire_of dc_wire_of pm_wire_of cd_wire_of ct_wire_of : Value}
    {od_Wire_times an_Wire_times : Option Addr} {sl_Wire_times : Array (Option Value)} {oc_Wire_times kV_Wire_times dc_Wire_times pm_Wire_times cd_Wire_times ct_Wire_times : Value}
    {od_Wire_getitem an_Wire_getitem : Option Addr} {sl_Wire_getitem : Array (Option Value)} {oc_Wire_getitem kV_Wire_getitem dc_Wire_getitem pm_Wire_getitem cd_Wire_getitem ct_Wire_getitem : Value}
    {od_Wire_rshift an_Wire_rshift : Option Addr} {sl_Wire_rshift : Array (Option Value)} {oc_Wire_rshift kV_Wire_rshift dc_Wire_rshift pm_Wire_rshift cd_Wire_rshift ct_Wire_rshift : Value}
    {od_Wire_invert an_Wire_invert : Option Addr} {sl_Wire_invert : Array (Option Value)} {oc_Wire_invert kV_Wire_invert dc_Wire_invert pm_Wire_invert cd_Wire_invert ct_Wire_invert : Value}
    {od_Wire_pow an_Wire_pow : Option Addr} {sl_Wire_pow : Array (Option Value)} {oc_Wire_pow kV_Wire_pow dc_Wire_pow pm_Wire_pow cd_Wire_pow ct_Wire_pow : Value}
    {od_l_wire an_l_wire : Option Addr} {sl_l_wire : Array (Option Value)} {oc_l_wire kV_l_wire dc_l_wire pm_l_wire cd_l_wire ct_l_wire : Value}
    {od_l_behind an_l_behind : Option Addr} {sl_l_behind : Array (Option Value)} {oc_l_behind kV_l_behind dc_l_behind pm_l_behind cd_l_behind ct_l_behind : Value}
    {od_l_back an_l_back : Option Addr} {sl_l_back : Array (Option Value)} {oc_l_back kV_l_back dc_l_back pm_l_back cd_l_back ct_l_back : Value}
    {od_l_times an_l_times : Option Addr} {sl_l_times : Array (Option Value)} {oc_l_times kV_l_times dc_l_times pm_l_times cd_l_times ct_l_times : Value}
    {od_l_is_wire an_l_is_wire : Option Addr} {sl_l_is_wire : Array (Option Value)} {oc_l_is_wire kV_l_is_wire dc_l_is_wire pm_l_is_wire cd_l_is_wire ct_l_is_wire : Value}
    {od_l_wrong_size an_l_wrong_size : Option Addr} {sl_l_wrong_size : Array (Option Value)} {oc_l_wrong_size kV_l_wrong_size dc_l_wrong_size pm_l_wrong_size cd_l_wrong_size ct_l_wrong_size : Value}
    {od_WrongSize_init an_WrongSize_init : Option Addr} {sl_WrongSize_init : Array (Option Value)} {oc_WrongSize_init kV_WrongSize_init dc_WrongSize_init pm_WrongSize_init cd_WrongSize_init ct_WrongSize_init : Value}
    {od_law an_law : Option Addr} {sl_law : Array (Option Value)} {oc_law kV_law dc_law pm_law cd_law ct_law : Value}
    (g_Wire : PySem.W.nsIn K mainGlobals "Wire" = some (some (.ref C_Wire)))
    (pg_Wire : PySem.W.plainGet K C_Wire Str.empty = true)
    (hd_Wire : PySem.W.hasDictIn K C_Wire = true)
    (po_Wire : PySem.W.plainOver K C_Wire = true)
    (sa_Wire : PySem.W.findIn K (.ref C_Wire) "__setattr__" = some (some (.builtin "object.__setattr__")))
    (mk_Wire : PySem.W.makesIn K C_Wire = true)
    (kc_Wire : PySem.W.keepIn K (.ref C_Wire) = true)
    (n_Wire_size : PySem.W.findIn K (.ref C_Wire) "size" = some none)
    (n_Wire__images : PySem.W.findIn K (.ref C_Wire) "_images" = some none)
    (g_WireError : PySem.W.nsIn K mainGlobals "WireError" = some (some (.ref C_WireError)))
    (g_WrongSize : PySem.W.nsIn K mainGlobals "WrongSize" = some (some (.ref C_WrongSize)))
    (x_WireError : K.lookup C_WireError = some (excClassObj nm_WireError qn_WireError C_WireError N_WireError bs_WireError [.type "ValueError", .type "Exception", .type "BaseException", .type "object"] true sn_WireError sub_WireError ab_WireError col_WireError dd_WireError k0_WireError k1_WireError k2_WireError k3_WireError k5_WireError "ValueError.__new__"))
    (x_WrongSize : K.lookup C_WrongSize = some (excClassObj nm_WrongSize qn_WrongSize C_WrongSize N_WrongSize bs_WrongSize [.ref C_WireError, .type "ValueError", .type "Exception", .type "BaseException", .type "object"] true sn_WrongSize sub_WrongSize ab_WrongSize col_WrongSize dd_WrongSize k0_WrongSize k1_WrongSize k2_WrongSize k3_WrongSize k5_WrongSize "ValueError.__new__"))
    (kc_WrongSize : PySem.W.keepIn K (.ref C_WrongSize) = true)
    (sa_WrongSize : PySem.W.findIn K (.ref C_WrongSize) "__setattr__" = some (some (.builtin "object.__setattr__")))
    (ga_WrongSize : PySem.W.findIn K (.ref C_WrongSize) "__getattribute__" = some (some (.builtin "BaseException.__getattribute__")))
    (gg_WrongSize : PySem.W.findIn K (.ref C_WrongSize) "__getattr__" = some none)
    (cl_WrongSize : PySem.W.findIn K (.ref C_WrongSize) "__class__" = some (some (.builtin "object.__class__")))
    (no_WrongSize : PySem.W.findIn K (.ref C_WrongSize) "size" = some none)
    (sf : PySem.W.selfFirst K C_Wire = true)
    (clw : PySem.W.findIn K (.ref C_Wire) "__class__" = some (some (.builtin "object.__class__")))
    (hget : PySem.W.specialIn K (.builtin "object.__class__") "__get__" = some (some (.builtin "getset_descriptor.__get__")))
    (htk : PySem.W.takesIn K (.builtin "object.__class__") = some true)
    (hmw : PySem.W.mroIn K C_Wire (.type "object") = some true)
    (hcd : PySem.W.clsIn K C_Wire = some cdW)
    (hmro : cdW.mro = [.ref C_Wire, .type "object"])
    (hI : PySem.W.findIn K (.ref C_Wire) "__irshift__" = some none)
    (hR : PySem.W.findIn K (.ref C_Wire) "__rpow__" = some none)
    (z_len : PySem.W.nsIn K mainGlobals "len" = some none)
    (z_range : PySem.W.nsIn K mainGlobals "range" = some none)
    (z_int : PySem.W.nsIn K mainGlobals "int" = some none)
    (z_list : PySem.W.nsIn K mainGlobals "list" = some none)
    (z_enumerate : PySem.W.nsIn K mainGlobals "enumerate" = some none)
    (z_dict : PySem.W.nsIn K mainGlobals "dict" = some none)
    (z_zip : PySem.W.nsIn K mainGlobals "zip" = some none)
    (z_set : PySem.W.nsIn K mainGlobals "set" = some none)
    (z_sorted : PySem.W.nsIn K mainGlobals "sorted" = some none)
    (z_all : PySem.W.nsIn K mainGlobals "all" = some none)
    (z_abs : PySem.W.nsIn K mainGlobals "abs" = some none)
    (z_isinstance : PySem.W.nsIn K mainGlobals "isinstance" = some none)
    (z_bool : PySem.W.nsIn K mainGlobals "bool" = some none)
    (a_l_cell : PySem.W.nsIn K mainGlobals "_law_cell" = some (some (.ref f_l_cell)))
    (l_l_cell : K.lookup f_l_cell = some ⟨oc_l_cell, od_l_cell, .func (PySem.W.fnOf "_law_cell" "_law_cell" (defArgs s_l_cell) (defBody s_l_cell) (defScope s_l_cell) .none kV_l_cell dc_l_cell pm_l_cell an_l_cell cd_l_cell ct_l_cell), sl_l_cell⟩)
    (c_l_cell : PySem.W.codeIn K cd_l_cell "_law_cell" = true)
    (k_l_cell : PySem.W.keepIn K (.ref f_l_cell) = true)
    (a_l_row : PySem.W.nsIn K mainGlobals "_law_row" = some (some (.ref f_l_row)))
    (l_l_row : K.lookup f_l_row = some ⟨oc_l_row, od_l_row, .func (PySem.W.fnOf "_law_row" "_law_row" (defArgs s_l_row) (defBody s_l_row) (defScope s_l_row) .none kV_l_row dc_l_row pm_l_row an_l_row cd_l_row ct_l_row), sl_l_row⟩)
    (c_l_row : PySem.W.codeIn K cd_l_row "_law_row" = true)
    (k_l_row : PySem.W.keepIn K (.ref f_l_row) = true)
    (a_l_drawn : PySem.W.nsIn K mainGlobals "_law_drawn" = some (some (.ref f_l_drawn)))
    (l_l_drawn : K.lookup f_l_drawn = some ⟨oc_l_drawn, od_l_drawn, .func (PySem.W.fnOf "_law_drawn" "_law_drawn" (defArgs s_l_drawn) (defBody s_l_drawn) (defScope s_l_drawn) .none kV_l_drawn dc_l_drawn pm_l_drawn an_l_drawn cd_l_drawn ct_l_drawn), sl_l_drawn⟩)
    (c_l_drawn : PySem.W.codeIn K cd_l_drawn "_law_drawn" = true)
    (k_l_drawn : PySem.W.keepIn K (.ref f_l_drawn) = true)
    (a_l_size : PySem.W.nsIn K mainGlobals "_law_size" = some (some (.ref f_l_size)))
    (l_l_size : K.lookup f_l_size = some ⟨oc_l_size, od_l_size, .func (PySem.W.fnOf "_law_size" "_law_size" (defArgs s_l_size) (defBody s_l_size) (defScope s_l_size) .none kV_l_size dc_l_size pm_l_size an_l_size cd_l_size ct_l_size), sl_l_size⟩)
    (c_l_size : PySem.W.codeIn K cd_l_size "_law_size" = true)
    (k_l_size : PySem.W.keepIn K (.ref f_l_size) = true)
    (a_l_rings : PySem.W.nsIn K mainGlobals "_law_rings" = some (some (.ref f_l_rings)))
    (l_l_rings : K.lookup f_l_rings = some ⟨oc_l_rings, od_l_rings, .func (PySem.W.fnOf "_law_rings" "_law_rings" (defArgs s_l_rings) (defBody s_l_rings) (defScope s_l_rings) .none kV_l_rings dc_l_rings pm_l_rings an_l_rings cd_l_rings ct_l_rings), sl_l_rings⟩)
    (c_l_rings : PySem.W.codeIn K cd_l_rings "_law_rings" = true)
    (k_l_rings : PySem.W.keepIn K (.ref f_l_rings) = true)
    (a_moves_of : PySem.W.nsIn K mainGlobals "moves_of" = some (some (.ref f_moves_of)))
    (l_moves_of : K.lookup f_moves_of = some ⟨oc_moves_of, od_moves_of, .func (PySem.W.fnOf "moves_of" "moves_of" (defArgs s_moves_of) (defBody s_moves_of) (defScope s_moves_of) (.ref T_moves_of) kV_moves_of dc_moves_of pm_moves_of an_moves_of cd_moves_of ct_moves_of), sl_moves_of⟩)
    (lT_moves_of : K.lookup T_moves_of = some ⟨oT_moves_of, dT_moves_of, .seq #[.none] nT_moves_of, sT_moves_of⟩)
    (c_moves_of : PySem.W.codeIn K cd_moves_of "moves_of" = true)
    (k_moves_of : PySem.W.keepIn K (.ref f_moves_of) = true)
    (a_rings_of : PySem.W.nsIn K mainGlobals "rings_of" = some (some (.ref f_rings_of)))
    (l_rings_of : K.lookup f_rings_of = some ⟨oc_rings_of, od_rings_of, .func (PySem.W.fnOf "rings_of" "rings_of" (defArgs s_rings_of) (defBody s_rings_of) (defScope s_rings_of) .none kV_rings_of dc_rings_of pm_rings_of an_rings_of cd_rings_of ct_rings_of), sl_rings_of⟩)
    (c_rings_of : PySem.W.codeIn K cd_rings_of "rings_of" = true)
    (k_rings_of : PySem.W.keepIn K (.ref f_rings_of) = true)
    (a_Wire_init : PySem.W.findIn K (.ref C_Wire) "__init__" = some (some (.ref f_Wire_init)))
    (i_Wire_init : PySem.W.isFn K (.ref f_Wire_init) = true)
    (l_Wire_init : K.lookup f_Wire_init = some ⟨oc_Wire_init, od_Wire_init, .func (PySem.W.fnOf "__init__" "Wire.__init__" (defArgs s_Wire_init) (defBody s_Wire_init) (defScope s_Wire_init) .none kV_Wire_init dc_Wire_init pm_Wire_init an_Wire_init cd_Wire_init ct_Wire_init), sl_Wire_init⟩)
    (c_Wire_init : PySem.W.codeIn K cd_Wire_init "Wire.__init__" = true)
    (k_Wire_init : PySem.W.keepIn K (.ref f_Wire_init) = true)
    (a_Wire_rings : PySem.W.findIn K (.ref C_Wire) "rings" = some (some (.ref f_Wire_rings)))
    (i_Wire_rings : PySem.W.isFn K (.ref f_Wire_rings) = true)
    (l_Wire_rings : K.lookup f_Wire_rings = some ⟨oc_Wire_rings, od_Wire_rings, .func (PySem.W.fnOf "rings" "Wire.rings" (defArgs s_Wire_rings) (defBody s_Wire_rings) (defScope s_Wire_rings) .none kV_Wire_rings dc_Wire_rings pm_Wire_rings an_Wire_rings cd_Wire_rings ct_Wire_rings), sl_Wire_rings⟩)
    (c_Wire_rings : PySem.W.codeIn K cd_Wire_rings "Wire.rings" = true)
    (k_Wire_rings : PySem.W.keepIn K (.ref f_Wire_rings) = true)
    (a_wire_of : PySem.W.nsIn K mainGlobals "wire_of" = some (some (.ref f_wire_of)))
    (l_wire_of : K.lookup f_wire_of = some ⟨oc_wire_of, od_wire_of, .func (PySem.W.fnOf "wire_of" "wire_of" (defArgs s_wire_of) (defBody s_wire_of) (defScope s_wire_of) .none kV_wire_of dc_wire_of pm_wire_of an_wire_of cd_wire_of ct_wire_of), sl_wire_of⟩)
    (c_wire_of : PySem.W.codeIn K cd_wire_of "wire_of" = true)
    (k_wire_of : PySem.W.keepIn K (.ref f_wire_of) = true)
    (a_Wire_times : PySem.W.findIn K (.ref C_Wire) "times" = some (some (.ref f_Wire_times)))
    (i_Wire_times : PySem.W.isFn K (.ref f_Wire_times) = true)
    (l_Wire_times : K.lookup f_Wire_times = some ⟨oc_Wire_times, od_Wire_times, .func (PySem.W.fnOf "times" "Wire.times" (defArgs s_Wire_times) (defBody s_Wire_times) (defScope s_Wire_times) .none kV_Wire_times dc_Wire_times pm_Wire_times an_Wire_times cd_Wire_times ct_Wire_times), sl_Wire_times⟩)
    (c_Wire_times : PySem.W.codeIn K cd_Wire_times "Wire.times" = true)
    (k_Wire_times : PySem.W.keepIn K (.ref f_Wire_times) = true)
    (a_Wire_getitem : PySem.W.findIn K (.ref C_Wire) "__getitem__" = some (some (.ref f_Wire_getitem)))
    (i_Wire_getitem : PySem.W.isFn K (.ref f_Wire_getitem) = true)
    (l_Wire_getitem : K.lookup f_Wire_getitem = some ⟨oc_Wire_getitem, od_Wire_getitem, .func (PySem.W.fnOf "__getitem__" "Wire.__getitem__" (defArgs s_Wire_getitem) (defBody s_Wire_getitem) (defScope s_Wire_getitem) .none kV_Wire_getitem dc_Wire_getitem pm_Wire_getitem an_Wire_getitem cd_Wire_getitem ct_Wire_getitem), sl_Wire_getitem⟩)
    (c_Wire_getitem : PySem.W.codeIn K cd_Wire_getitem "Wire.__getitem__" = true)
    (k_Wire_getitem : PySem.W.keepIn K (.ref f_Wire_getitem) = true)
    (a_Wire_rshift : PySem.W.findIn K (.ref C_Wire) "__rshift__" = some (some (.ref f_Wire_rshift)))
    (i_Wire_rshift : PySem.W.isFn K (.ref f_Wire_rshift) = true)
    (l_Wire_rshift : K.lookup f_Wire_rshift = some ⟨oc_Wire_rshift, od_Wire_rshift, .func (PySem.W.fnOf "__rshift__" "Wire.__rshift__" (defArgs s_Wire_rshift) (defBody s_Wire_rshift) (defScope s_Wire_rshift) .none kV_Wire_rshift dc_Wire_rshift pm_Wire_rshift an_Wire_rshift cd_Wire_rshift ct_Wire_rshift), sl_Wire_rshift⟩)
    (c_Wire_rshift : PySem.W.codeIn K cd_Wire_rshift "Wire.__rshift__" = true)
    (k_Wire_rshift : PySem.W.keepIn K (.ref f_Wire_rshift) = true)
    (a_Wire_invert : PySem.W.findIn K (.ref C_Wire) "__invert__" = some (some (.ref f_Wire_invert)))
    (i_Wire_invert : PySem.W.isFn K (.ref f_Wire_invert) = true)
    (l_Wire_invert : K.lookup f_Wire_invert = some ⟨oc_Wire_invert, od_Wire_invert, .func (PySem.W.fnOf "__invert__" "Wire.__invert__" (defArgs s_Wire_invert) (defBody s_Wire_invert) (defScope s_Wire_invert) .none kV_Wire_invert dc_Wire_invert pm_Wire_invert an_Wire_invert cd_Wire_invert ct_Wire_invert), sl_Wire_invert⟩)
    (c_Wire_invert : PySem.W.codeIn K cd_Wire_invert "Wire.__invert__" = true)
    (k_Wire_invert : PySem.W.keepIn K (.ref f_Wire_invert) = true)
    (a_Wire_pow : PySem.W.findIn K (.ref C_Wire) "__pow__" = some (some (.ref f_Wire_pow)))
    (i_Wire_pow : PySem.W.isFn K (.ref f_Wire_pow) = true)
    (l_Wire_pow : K.lookup f_Wire_pow = some ⟨oc_Wire_pow, od_Wire_pow, .func (PySem.W.fnOf "__pow__" "Wire.__pow__" (defArgs s_Wire_pow) (defBody s_Wire_pow) (defScope s_Wire_pow) .none kV_Wire_pow dc_Wire_pow pm_Wire_pow an_Wire_pow cd_Wire_pow ct_Wire_pow), sl_Wire_pow⟩)
    (c_Wire_pow : PySem.W.codeIn K cd_Wire_pow "Wire.__pow__" = true)
    (k_Wire_pow : PySem.W.keepIn K (.ref f_Wire_pow) = true)
    (a_l_wire : PySem.W.nsIn K mainGlobals "_law_wire" = some (some (.ref f_l_wire)))
    (l_l_wire : K.lookup f_l_wire = some ⟨oc_l_wire, od_l_wire, .func (PySem.W.fnOf "_law_wire" "_law_wire" (defArgs s_l_wire) (defBody s_l_wire) (defScope s_l_wire) .none kV_l_wire dc_l_wire pm_l_wire an_l_wire cd_l_wire ct_l_wire), sl_l_wire⟩)
    (c_l_wire : PySem.W.codeIn K cd_l_wire "_law_wire" = true)
    (k_l_wire : PySem.W.keepIn K (.ref f_l_wire) = true)
    (a_l_behind : PySem.W.nsIn K mainGlobals "_law_behind" = some (some (.ref f_l_behind)))
    (l_l_behind : K.lookup f_l_behind = some ⟨oc_l_behind, od_l_behind, .func (PySem.W.fnOf "_law_behind" "_law_behind" (defArgs s_l_behind) (defBody s_l_behind) (defScope s_l_behind) .none kV_l_behind dc_l_behind pm_l_behind an_l_behind cd_l_behind ct_l_behind), sl_l_behind⟩)
    (c_l_behind : PySem.W.codeIn K cd_l_behind "_law_behind" = true)
    (k_l_behind : PySem.W.keepIn K (.ref f_l_behind) = true)
    (a_l_back : PySem.W.nsIn K mainGlobals "_law_back" = some (some (.ref f_l_back)))
    (l_l_back : K.lookup f_l_back = some ⟨oc_l_back, od_l_back, .func (PySem.W.fnOf "_law_back" "_law_back" (defArgs s_l_back) (defBody s_l_back) (defScope s_l_back) .none kV_l_back dc_l_back pm_l_back an_l_back cd_l_back ct_l_back), sl_l_back⟩)
    (c_l_back : PySem.W.codeIn K cd_l_back "_law_back" = true)
    (k_l_back : PySem.W.keepIn K (.ref f_l_back) = true)
    (a_l_times : PySem.W.nsIn K mainGlobals "_law_times" = some (some (.ref f_l_times)))
    (l_l_times : K.lookup f_l_times = some ⟨oc_l_times, od_l_times, .func (PySem.W.fnOf "_law_times" "_law_times" (defArgs s_l_times) (defBody s_l_times) (defScope s_l_times) .none kV_l_times dc_l_times pm_l_times an_l_times cd_l_times ct_l_times), sl_l_times⟩)
    (c_l_times : PySem.W.codeIn K cd_l_times "_law_times" = true)
    (k_l_times : PySem.W.keepIn K (.ref f_l_times) = true)
    (a_l_is_wire : PySem.W.nsIn K mainGlobals "_law_is_wire" = some (some (.ref f_l_is_wire)))
    (l_l_is_wire : K.lookup f_l_is_wire = some ⟨oc_l_is_wire, od_l_is_wire, .func (PySem.W.fnOf "_law_is_wire" "_law_is_wire" (defArgs s_l_is_wire) (defBody s_l_is_wire) (defScope s_l_is_wire) .none kV_l_is_wire dc_l_is_wire pm_l_is_wire an_l_is_wire cd_l_is_wire ct_l_is_wire), sl_l_is_wire⟩)
    (c_l_is_wire : PySem.W.codeIn K cd_l_is_wire "_law_is_wire" = true)
    (k_l_is_wire : PySem.W.keepIn K (.ref f_l_is_wire) = true)
    (a_l_wrong_size : PySem.W.nsIn K mainGlobals "_law_wrong_size" = some (some (.ref f_l_wrong_size)))
    (l_l_wrong_size : K.lookup f_l_wrong_size = some ⟨oc_l_wrong_size, od_l_wrong_size, .func (PySem.W.fnOf "_law_wrong_size" "_law_wrong_size" (defArgs s_l_wrong_size) (defBody s_l_wrong_size) (defScope s_l_wrong_size) .none kV_l_wrong_size dc_l_wrong_size pm_l_wrong_size an_l_wrong_size cd_l_wrong_size ct_l_wrong_size), sl_l_wrong_size⟩)
    (c_l_wrong_size : PySem.W.codeIn K cd_l_wrong_size "_law_wrong_size" = true)
    (k_l_wrong_size : PySem.W.keepIn K (.ref f_l_wrong_size) = true)
    (a_WrongSize_init : PySem.W.findIn K (.ref C_WrongSize) "__init__" = some (some (.ref f_WrongSize_init)))
    (i_WrongSize_init : PySem.W.typeIn K (.ref f_WrongSize_init) = some (.type "function"))
    (l_WrongSize_init : K.lookup f_WrongSize_init = some ⟨oc_WrongSize_init, od_WrongSize_init, .func (PySem.W.fnOf "__init__" "WrongSize.__init__" (defArgs s_WrongSize_init) (defBody s_WrongSize_init) (defScope s_WrongSize_init) .none kV_WrongSize_init dc_WrongSize_init pm_WrongSize_init an_WrongSize_init cd_WrongSize_init ct_WrongSize_init), sl_WrongSize_init⟩)
    (c_WrongSize_init : PySem.W.codeIn K cd_WrongSize_init "WrongSize.__init__" = true)
    (k_WrongSize_init : PySem.W.keepIn K (.ref f_WrongSize_init) = true)
    (a_law : PySem.W.nsIn K mainGlobals "law" = some (some (.ref f_law)))
    (l_law : K.lookup f_law = some ⟨oc_law, od_law, .func (PySem.W.fnOf "law" "law" (defArgs s_law) (defBody s_law) (defScope s_law) .none kV_law dc_law pm_law an_law cd_law ct_law), sl_law⟩)
    (c_law : PySem.W.codeIn K cd_law "law" = true)
    (k_law : PySem.W.keepIn K (.ref f_law) = true)
    (fnget : PySem.W.fnIn K f_Wire_getitem = true)
    : ∃ fd : FuncData, (∀ (s : Shared) (v : Value), BindsTo s fd ⟨[v], []⟩ [("_law_script", v)]) ∧ ∀ base : Heap, K.In base → base.Ns mainGlobals mg → FnOk l.prog w K mg base CX0 7 fa fd ["_law_script"] (spLaw K) := by
  have e := hfa.symm.trans (PySem.W.mg_of X G a_law)
  cases e
  have F_l_cell := fun_mk (st := s_l_cell) l_l_cell c_l_cell k_l_cell
  have b_l_cell := F_l_cell.binds (ps := ["_law_script", "_law_k"]) fun _ _ _ _ _ _ us hl => match us, hl with | [_, _], _ => rfl
  have F_l_row := fun_mk (st := s_l_row) l_l_row c_l_row k_l_row
  have b_l_row := F_l_row.binds (ps := ["_law_cell_here", "_law_sizes"]) fun _ _ _ _ _ _ us hl => match us, hl with | [_, _], _ => rfl
  have F_l_drawn := fun_mk (st := s_l_drawn) l_l_drawn c_l_drawn k_l_drawn
  have b_l_drawn := F_l_drawn.binds (ps := ["_law_cell_here", "_law_n"]) fun _ _ _ _ _ _ us hl => match us, hl with | [_, _], _ => rfl
  have F_l_size := fun_mk (st := s_l_size) l_l_size c_l_size k_l_size
  have b_l_size := F_l_size.binds (ps := ["_law_draw"]) fun _ _ _ _ _ _ us hl => match us, hl with | [_], _ => rfl
  have F_l_rings := fun_mk (st := s_l_rings) l_l_rings c_l_rings k_l_rings
  have b_l_rings := F_l_rings.binds (ps := ["_law_images"]) fun _ _ _ _ _ _ us hl => match us, hl with | [_], _ => rfl
  have F_moves_of : FunD K "moves_of" "moves_of" (defArgs s_moves_of) (defBody s_moves_of) (defScope s_moves_of) [.non] [] f_moves_of _ := ⟨⟨_, _, _, _, _, _, _, _, _, _, rfl, l_moves_of, c_moves_of, .inr ⟨by simp, _, _, [.none], _, rfl, lT_moves_of, rfl, .cons rfl .nil⟩, .inl rfl⟩, k_moves_of⟩
  obtain ⟨ds_moves_of, vd_moves_of, b_moves_of⟩ := F_moves_of.binds1 (ps := ["rings", "size"]) 2 1 (by simp) rfl fun _ _ _ _ _ _ _ us its h1 h2 => match us, its, h1, h2 with | [_, _], [_], _, _ => ⟨_, rfl, rfl⟩
  have F_rings_of := fun_mk (st := s_rings_of) l_rings_of c_rings_of k_rings_of
  have b_rings_of := F_rings_of.binds (ps := ["moves"]) fun _ _ _ _ _ _ us hl => match us, hl with | [_], _ => rfl
  have F_Wire_init := fun_mk (st := s_Wire_init) l_Wire_init c_Wire_init k_Wire_init
  have b_Wire_init := F_Wire_init.binds (ps := ["self", "size", "rings"]) fun _ _ _ _ _ _ us hl => match us, hl with | [_, _, _], _ => rfl
  have F_Wire_rings := fun_mk (st := s_Wire_rings) l_Wire_rings c_Wire_rings k_Wire_rings
  have b_Wire_rings := F_Wire_rings.binds (ps := ["self"]) fun _ _ _ _ _ _ us hl => match us, hl with | [_], _ => rfl
  have F_wire_of := fun_mk (st := s_wire_of) l_wire_of c_wire_of k_wire_of
  have b_wire_of := F_wire_of.binds (ps := ["images"]) fun _ _ _ _ _ _ us hl => match us, hl with | [_], _ => rfl
  have F_Wire_times := fun_mk (st := s_Wire_times) l_Wire_times c_Wire_times k_Wire_times
  have b_Wire_times := F_Wire_times.binds (ps := ["self", "k"]) fun _ _ _ _ _ _ us hl => match us, hl with | [_, _], _ => rfl
  have F_Wire_getitem := fun_mk (st := s_Wire_getitem) l_Wire_getitem c_Wire_getitem k_Wire_getitem
  have b_Wire_getitem := F_Wire_getitem.binds (ps := ["self", "at"]) fun _ _ _ _ _ _ us hl => match us, hl with | [_, _], _ => rfl
  have F_Wire_rshift := fun_mk (st := s_Wire_rshift) l_Wire_rshift c_Wire_rshift k_Wire_rshift
  have b_Wire_rshift := F_Wire_rshift.binds (ps := ["self", "other"]) fun _ _ _ _ _ _ us hl => match us, hl with | [_, _], _ => rfl
  have F_Wire_invert := fun_mk (st := s_Wire_invert) l_Wire_invert c_Wire_invert k_Wire_invert
  have b_Wire_invert := F_Wire_invert.binds (ps := ["self"]) fun _ _ _ _ _ _ us hl => match us, hl with | [_], _ => rfl
  have F_Wire_pow := fun_mk (st := s_Wire_pow) l_Wire_pow c_Wire_pow k_Wire_pow
  have b_Wire_pow := F_Wire_pow.binds (ps := ["self", "other"]) fun _ _ _ _ _ _ us hl => match us, hl with | [_, _], _ => rfl
  have F_l_wire := fun_mk (st := s_l_wire) l_l_wire c_l_wire k_l_wire
  have b_l_wire := F_l_wire.binds (ps := ["_law_images"]) fun _ _ _ _ _ _ us hl => match us, hl with | [_], _ => rfl
  have F_l_behind := fun_mk (st := s_l_behind) l_l_behind c_l_behind k_l_behind
  have b_l_behind := F_l_behind.binds (ps := ["_law_one", "_law_two"]) fun _ _ _ _ _ _ us hl => match us, hl with | [_, _], _ => rfl
  have F_l_back := fun_mk (st := s_l_back) l_l_back c_l_back k_l_back
  have b_l_back := F_l_back.binds (ps := ["_law_images"]) fun _ _ _ _ _ _ us hl => match us, hl with | [_], _ => rfl
  have F_l_times := fun_mk (st := s_l_times) l_l_times c_l_times k_l_times
  have b_l_times := F_l_times.binds (ps := ["_law_images", "_law_k"]) fun _ _ _ _ _ _ us hl => match us, hl with | [_, _], _ => rfl
  have F_l_is_wire := fun_mk (st := s_l_is_wire) l_l_is_wire c_l_is_wire k_l_is_wire
  have b_l_is_wire := F_l_is_wire.binds (ps := ["_law_wire_here", "_law_images"]) fun _ _ _ _ _ _ us hl => match us, hl with | [_, _], _ => rfl
  have F_l_wrong_size := fun_mk (st := s_l_wrong_size) l_l_wrong_size c_l_wrong_size k_l_wrong_size
  have b_l_wrong_size := F_l_wrong_size.binds (ps := ["_law_one", "_law_two"]) fun _ _ _ _ _ _ us hl => match us, hl with | [_, _], _ => rfl
  have F_WrongSize_init := fun_mk (st := s_WrongSize_init) l_WrongSize_init c_WrongSize_init k_WrongSize_init
  have b_WrongSize_init := F_WrongSize_init.binds (ps := ["self", "size"]) fun _ _ _ _ _ _ us hl => match us, hl with | [_, _], _ => rfl
  have F_law := fun_mk (st := s_law) l_law c_law k_law
  refine ⟨PySem.W.fnOf "law" "law" (defArgs s_law) (defBody s_law) (defScope s_law) .none kV_law dc_law pm_law an_law cd_law ct_law, fun s v => .of_eq rfl, fun base hb1 hb2 => ?_⟩
  have N := fun {x : Str} (z : PySem.W.nsIn K mainGlobals x = some none) => PySem.W.mg_none_of X G z
  have B : Blt mg := ⟨N z_len, N z_range, N z_int, N z_list, N z_enumerate, N z_dict, N z_zip, N z_set, N z_sorted, N z_all, N z_abs, N z_isinstance, N z_bool⟩
  have cl : Cls K C_Wire := ⟨pg_Wire, hd_Wire, po_Wire, sa_Wire⟩
  have W : WTxt K C_Wire := ⟨cl, n_Wire_size, n_Wire__images⟩
  have T : BltC K mg C_Wire := { toBlt := B, cl := cl }
  have TT : WTop K mg C_Wire := { toBltC := T, g_Wire := PySem.W.mg_of X G g_Wire, cla := clw, hget := hget, htk := htk, hmro := hmw }
  have Op : OpC K C_Wire := ⟨sf⟩
  have hfn : ∀ f, PySem.W.findIn K (.ref C_Wire) "__getitem__" = some (some (.ref f)) → PySem.W.fnIn K f = true := fun f e => by
    have z := a_Wire_getitem.symm.trans e
    cases z
    exact fnget
  have X_WS : ErrAt K C_WrongSize C_WireError := ⟨_, _, _, _, _, _, _, _, _, _, _, _, _, _, x_WrongSize⟩
  have E_WS : ErrC K C_WrongSize := X_WS.errC sa_WrongSize ga_WrongSize gg_WrongSize cl_WrongSize kc_WrongSize hget htk
  have g_WS := PySem.W.mg_of X G g_WrongSize
  have D_WS : ErrOk l.prog w K mg base CX0 1 C_WrongSize "WrongSize" "size" "size" := ⟨E_WS, g_WS, _, _, a_WrongSize_init, i_WrongSize_init, b_WrongSize_init, ok_WrongSize_init F_WrongSize_init E_WS no_WrongSize⟩
  have D_l_cell : DefOk l.prog w K mg base CX0 1 "_law_cell" ["_law_script", "_law_k"] [] (spCell K) := ⟨_, _, [], PySem.W.mg_of X G a_l_cell, k_l_cell, b_l_cell, .nil, ok_cell F_l_cell B⟩
  have D_l_row : DefOk l.prog w K mg base CX0 1 "_law_row" ["_law_cell_here", "_law_sizes"] [] (spRow K) := ⟨_, _, [], PySem.W.mg_of X G a_l_row, k_l_row, b_l_row, .nil, ok_row F_l_row B⟩
  have D_l_drawn : DefOk l.prog w K mg base CX0 2 "_law_drawn" ["_law_cell_here", "_law_n"] [] spDrawn := ⟨_, _, [], PySem.W.mg_of X G a_l_drawn, k_l_drawn, b_l_drawn, .nil, ok_drawn F_l_drawn B D_l_row⟩
  have D_l_size : DefOk l.prog w K mg base CX0 1 "_law_size" ["_law_draw"] [] spSize := ⟨_, _, [], PySem.W.mg_of X G a_l_size, k_l_size, b_l_size, .nil, ok_size F_l_size⟩
  have D_l_rings : DefOk l.prog w K mg base CX0 1 "_law_rings" ["_law_images"] [] (spRings K) := ⟨_, _, [], PySem.W.mg_of X G a_l_rings, k_l_rings, b_l_rings, .nil, ok_l_rings F_l_rings B⟩
  have D_moves_of : DefOk l.prog w K mg base CX0 1 "moves_of" ["rings", "size"] [] (spMoves K) := ⟨_, _, ds_moves_of, PySem.W.mg_of X G a_moves_of, k_moves_of, b_moves_of, vd_moves_of, ok_moves_of F_moves_of B⟩
  have D_rings_of : DefOk l.prog w K mg base CX0 1 "rings_of" ["moves"] [] spRingsOf := ⟨_, _, [], PySem.W.mg_of X G a_rings_of, k_rings_of, b_rings_of, .nil, ok_rings_of F_rings_of B⟩
  have M_Wire : MakeOk l.prog w K mg base CX0 2 C_Wire "Wire" ["self", "size", "rings"] [] (spInit K C_Wire) := ⟨PySem.W.mg_of X G g_Wire, _, _, [], ⟨mk_Wire, a_Wire_init, i_Wire_init, kc_Wire⟩, b_Wire_init, .nil, ok_Wire_init F_Wire_init B W D_moves_of⟩
  have D_Wire_rings : MethOk l.prog w K mg base CX0 2 C_Wire "rings" ["self"] [] (spWRings C_Wire) := ⟨_, _, [], ⟨a_Wire_rings, i_Wire_rings, k_Wire_rings⟩, b_Wire_rings, .nil, ok_Wire_rings F_Wire_rings B W D_rings_of⟩
  have D_wire_of : DefOk l.prog w K mg base CX0 4 "wire_of" ["images"] [] (spWireOf K C_Wire) := ⟨_, _, [], PySem.W.mg_of X G a_wire_of, k_wire_of, b_wire_of, .nil, ok_wire_of F_wire_of B M_Wire D_rings_of⟩
  have D_Wire_getitem : MethOk l.prog w K mg base CX0 1 C_Wire "__getitem__" ["self", "at"] [] (spGet C_Wire) := ⟨_, _, [], ⟨a_Wire_getitem, i_Wire_getitem, k_Wire_getitem⟩, b_Wire_getitem, .nil, ok_Wire_getitem F_Wire_getitem B W⟩
  have D_Wire_times : MethOk l.prog w K mg base CX0 5 C_Wire "times" ["self", "k"] [] (spTimes C_Wire) := ⟨_, _, [], ⟨a_Wire_times, i_Wire_times, k_Wire_times⟩, b_Wire_times, .nil, ok_Wire_times F_Wire_times T W D_Wire_rings D_wire_of⟩
  have D_Wire_rshift : MethOk l.prog w K mg base CX0 5 C_Wire "__rshift__" ["self", "other"] [] (spShift C_Wire) := ⟨_, _, [], ⟨a_Wire_rshift, i_Wire_rshift, k_Wire_rshift⟩, b_Wire_rshift, .nil, ok_Wire_rshift F_Wire_rshift B W hfn D_Wire_getitem D_wire_of⟩
  have D_rshiftX : MethOk l.prog w K mg base (L2.CX l.prog w) 3 C_Wire "__rshift__" ["self", "other"] [] (spShiftX C_Wire C_WrongSize) := ⟨_, _, [], ⟨a_Wire_rshift, i_Wire_rshift, k_Wire_rshift⟩, b_Wire_rshift, .nil, ok_Wire_rshiftX F_Wire_rshift W D_WS⟩
  have D_Wire_invert : MethOk l.prog w K mg base CX0 6 C_Wire "__invert__" ["self"] [] (spInv C_Wire) := ⟨_, _, [], ⟨a_Wire_invert, i_Wire_invert, k_Wire_invert⟩, b_Wire_invert, .nil, ok_Wire_invert F_Wire_invert T D_Wire_times⟩
  have D_Wire_pow : MethOk l.prog w K mg base CX0 6 C_Wire "__pow__" ["self", "other"] [] (spTimes C_Wire) := ⟨_, _, [], ⟨a_Wire_pow, i_Wire_pow, k_Wire_pow⟩, b_Wire_pow, .nil, ok_Wire_pow F_Wire_pow T D_Wire_times⟩
  have D_l_wire : DefOk l.prog w K mg base CX0 4 "_law_wire" ["_law_images"] [] (spLWire K C_Wire) := ⟨_, _, [], PySem.W.mg_of X G a_l_wire, k_l_wire, b_l_wire, .nil, ok_l_wire F_l_wire B M_Wire D_l_rings⟩
  have D_l_behind : DefOk l.prog w K mg base CX0 1 "_law_behind" ["_law_one", "_law_two"] [] (spBehind K) := ⟨_, _, [], PySem.W.mg_of X G a_l_behind, k_l_behind, b_l_behind, .nil, ok_l_behind F_l_behind⟩
  have D_l_back : DefOk l.prog w K mg base CX0 1 "_law_back" ["_law_images"] [] (spBack K) := ⟨_, _, [], PySem.W.mg_of X G a_l_back, k_l_back, b_l_back, .nil, ok_l_back F_l_back B⟩
  have D_l_times : DefOk l.prog w K mg base CX0 2 "_law_times" ["_law_images", "_law_k"] [] (spLTimes K) := ⟨_, _, [], PySem.W.mg_of X G a_l_times, k_l_times, b_l_times, .nil, ok_l_times F_l_times B D_l_back D_l_behind⟩
  have D_l_is_wire : DefOk l.prog w K mg base CX0 3 "_law_is_wire" ["_law_wire_here", "_law_images"] [] (spIsWire K C_Wire) := ⟨_, _, [], PySem.W.mg_of X G a_l_is_wire, k_l_is_wire, b_l_is_wire, .nil, ok_l_is_wire F_l_is_wire TT W hfn D_Wire_getitem⟩
  have D_l_wrong : DefOk l.prog w K mg base CX0 4 "_law_wrong_size" ["_law_one", "_law_two"] [] (spWrong C_Wire) := ⟨_, _, [], PySem.W.mg_of X G a_l_wrong_size, k_l_wrong_size, b_l_wrong_size, .nil, ok_l_wrong F_l_wrong_size Op E_WS g_WS no_WrongSize X_WS.exm D_rshiftX⟩
  obtain ⟨fo, hfo⟩ := int_pow
  obtain ⟨ro, hro⟩ := int_rpow
  exact ok_law F_law TT Op hcd hmro (by rw [d_irs]; exact hI) no_irs (by rw [d_rpw]; exact hR) hfo hro D_l_cell D_l_row D_l_size D_l_drawn D_l_wire D_l_behind D_l_back D_l_times D_l_is_wire D_l_wrong D_Wire_rshift D_Wire_times D_Wire_invert D_Wire_pow

end TW
open PySem PySem.W PyProof.Rows
set_option maxRecDepth 100000 in
set_option maxHeartbeats 0 in
theorem PySem.Challenge.cw_turnwires_k03_wires_one_behind_another_holds : PySem.Challenge.rw_turnwires_k03_wires_one_behind_another.Holds := by
  w_on; o_law; k_head; (case hw => w_witness2)
  k_fill
  refine L2.walk_of (l := PySem.Challenge.rw_turnwires_k03_wires_one_behind_another) (n := 63) (k := 7) (x := "_law_script") (CX := fun w => L2.CX0) (sp := fun w => TW.spLaw _) rfl (by decide) rfl ⟨rfl, by decide, by decide⟩ (fun w h Y => PySem.W.kIn_of Y) ?F (fun _ _ a ns hl _ hS => ⟨a, ns, rfl, hS, hl, fun _ => rfl⟩) (fun _ _ _ _ _ h => h)
  case F =>
    intro w mg fa h KX G hmg
    refine' TW.all_mk KX G hmg ?g_Wire ?pg_Wire ?hd_Wire ?po_Wire ?sa_Wire ?mk_Wire ?kc_Wire ?n_Wire_size ?n_Wire__images ?g_WireError ?g_WrongSize ?x_WireError ?x_WrongSize ?kc_WrongSize ?sa_WrongSize ?ga_WrongSize ?gg_WrongSize ?cl_WrongSize ?no_WrongSize ?sf ?clw ?hget ?htk ?hmw ?hcd ?hmro ?hI ?hR ?z_len ?z_range ?z_int ?z_list ?z_enumerate ?z_dict ?z_zip ?z_set ?z_sorted ?z_all ?z_abs ?z_isinstance ?z_bool ?a_l_cell ?l_l_cell ?c_l_cell ?k_l_cell ?a_l_row ?l_l_row ?c_l_row ?k_l_row ?a_l_drawn ?l_l_drawn ?c_l_drawn ?k_l_drawn ?a_l_size ?l_l_size ?c_l_size ?k_l_size ?a_l_rings ?l_l_rings ?c_l_rings ?k_l_rings ?a_moves_of ?l_moves_of ?lT_moves_of ?c_moves_of ?k_moves_of ?a_rings_of ?l_rings_of ?c_rings_of ?k_rings_of ?a_Wire_init ?i_Wire_init ?l_Wire_init ?c_Wire_init ?k_Wire_init ?a_Wire_rings ?i_Wire_rings ?l_Wire_rings ?c_Wire_rings ?k_Wire_rings ?a_wire_of ?l_wire_of ?c_wire_of ?k_wire_of ?a_Wire_times ?i_Wire_times ?l_Wire_times ?c_Wire_times ?k_Wire_times ?a_Wire_getitem ?i_Wire_getitem ?l_Wire_getitem ?c_Wire_getitem ?k_Wire_getitem ?a_Wire_rshift ?i_Wire_rshift ?l_Wire_rshift ?c_Wire_rshift ?k_Wire_rshift ?a_Wire_invert ?i_Wire_invert ?l_Wire_invert ?c_Wire_invert ?k_Wire_invert ?a_Wire_pow ?i_Wire_pow ?l_Wire_pow ?c_Wire_pow ?k_Wire_pow ?a_l_wire ?l_l_wire ?c_l_wire ?k_l_wire ?a_l_behind ?l_l_behind ?c_l_behind ?k_l_behind ?a_l_back ?l_l_back ?c_l_back ?k_l_back ?a_l_times ?l_l_times ?c_l_times ?k_l_times ?a_l_is_wire ?l_l_is_wire ?c_l_is_wire ?k_l_is_wire ?a_l_wrong_size ?l_l_wrong_size ?c_l_wrong_size ?k_l_wrong_size ?a_WrongSize_init ?i_WrongSize_init ?l_WrongSize_init ?c_WrongSize_init ?k_WrongSize_init ?a_law ?l_law ?c_law ?k_law ?fnget
    (case g_Wire => k_is)
    (case pg_Wire => k_is)
    (case hd_Wire => k_is)
    (case po_Wire => k_is)
    (case sa_Wire => k_is)
    (case mk_Wire => k_is)
    (case kc_Wire => k_is)
    (case n_Wire_size => k_is)
    (case n_Wire__images => k_is)
    (case g_WireError => k_is)
    (case g_WrongSize => k_is)
    (case x_WireError => k_is)
    (case x_WrongSize => k_is)
    (case kc_WrongSize => k_is)
    (case sa_WrongSize => k_is)
    (case ga_WrongSize => k_is)
    (case gg_WrongSize => k_is)
    (case cl_WrongSize => k_is)
    (case no_WrongSize => k_is)
    (case sf => k_is)
    (case clw => k_is)
    (case hget => k_is)
    (case htk => k_is)
    (case hmw => k_is)
    (case hcd => k_is)
    (case hmro => rfl)
    (case hI => k_is)
    (case hR => k_is)
    (case z_len => k_is)
    (case z_range => k_is)
    (case z_int => k_is)
    (case z_list => k_is)
    (case z_enumerate => k_is)
    (case z_dict => k_is)
    (case z_zip => k_is)
    (case z_set => k_is)
    (case z_sorted => k_is)
    (case z_all => k_is)
    (case z_abs => k_is)
    (case z_isinstance => k_is)
    (case z_bool => k_is)
    (case a_l_cell => k_is)
    (case l_l_cell => k_is)
    (case c_l_cell => k_is)
    (case k_l_cell => k_is)
    (case a_l_row => k_is)
    (case l_l_row => k_is)
    (case c_l_row => k_is)
    (case k_l_row => k_is)
    (case a_l_drawn => k_is)
    (case l_l_drawn => k_is)
    (case c_l_drawn => k_is)
    (case k_l_drawn => k_is)
    (case a_l_size => k_is)
    (case l_l_size => k_is)
    (case c_l_size => k_is)
    (case k_l_size => k_is)
    (case a_l_rings => k_is)
    (case l_l_rings => k_is)
    (case c_l_rings => k_is)
    (case k_l_rings => k_is)
    (case a_moves_of => k_is)
    (case l_moves_of => k_is)
    (case lT_moves_of => k_is)
    (case c_moves_of => k_is)
    (case k_moves_of => k_is)
    (case a_rings_of => k_is)
    (case l_rings_of => k_is)
    (case c_rings_of => k_is)
    (case k_rings_of => k_is)
    (case a_Wire_init => k_is)
    (case i_Wire_init => k_is)
    (case l_Wire_init => k_is)
    (case c_Wire_init => k_is)
    (case k_Wire_init => k_is)
    (case a_Wire_rings => k_is)
    (case i_Wire_rings => k_is)
    (case l_Wire_rings => k_is)
    (case c_Wire_rings => k_is)
    (case k_Wire_rings => k_is)
    (case a_wire_of => k_is)
    (case l_wire_of => k_is)
    (case c_wire_of => k_is)
    (case k_wire_of => k_is)
    (case a_Wire_times => k_is)
    (case i_Wire_times => k_is)
    (case l_Wire_times => k_is)
    (case c_Wire_times => k_is)
    (case k_Wire_times => k_is)
    (case a_Wire_getitem => k_is)
    (case i_Wire_getitem => k_is)
    (case l_Wire_getitem => k_is)
    (case c_Wire_getitem => k_is)
    (case k_Wire_getitem => k_is)
    (case a_Wire_rshift => k_is)
    (case i_Wire_rshift => k_is)
    (case l_Wire_rshift => k_is)
    (case c_Wire_rshift => k_is)
    (case k_Wire_rshift => k_is)
    (case a_Wire_invert => k_is)
    (case i_Wire_invert => k_is)
    (case l_Wire_invert => k_is)
    (case c_Wire_invert => k_is)
    (case k_Wire_invert => k_is)
    (case a_Wire_pow => k_is)
    (case i_Wire_pow => k_is)
    (case l_Wire_pow => k_is)
    (case c_Wire_pow => k_is)
    (case k_Wire_pow => k_is)
    (case a_l_wire => k_is)
    (case l_l_wire => k_is)
    (case c_l_wire => k_is)
    (case k_l_wire => k_is)
    (case a_l_behind => k_is)
    (case l_l_behind => k_is)
    (case c_l_behind => k_is)
    (case k_l_behind => k_is)
    (case a_l_back => k_is)
    (case l_l_back => k_is)
    (case c_l_back => k_is)
    (case k_l_back => k_is)
    (case a_l_times => k_is)
    (case l_l_times => k_is)
    (case c_l_times => k_is)
    (case k_l_times => k_is)
    (case a_l_is_wire => k_is)
    (case l_l_is_wire => k_is)
    (case c_l_is_wire => k_is)
    (case k_l_is_wire => k_is)
    (case a_l_wrong_size => k_is)
    (case l_l_wrong_size => k_is)
    (case c_l_wrong_size => k_is)
    (case k_l_wrong_size => k_is)
    (case a_WrongSize_init => k_is)
    (case i_WrongSize_init => k_is)
    (case l_WrongSize_init => k_is)
    (case c_WrongSize_init => k_is)
    (case k_WrongSize_init => k_is)
    (case a_law => k_is)
    (case l_law => k_is)
    (case c_law => k_is)
    (case k_law => k_is)
    (case fnget => k_is)
#print axioms PySem.Challenge.cw_turnwires_k03_wires_one_behind_another_holds
