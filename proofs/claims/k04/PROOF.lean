import PyProof.Rows.All
import Wide.All
import OpenK.AllK
import Wide.FinOn
import HandS.ForMost
import HandS.Walk
import HandS.Strs
import HandS.IsInst
import HandS.Gcd
import HandS.Defaults
import HandS.More
import HandS.Conv
import KE.KDictZip
import KE.KMathG
import PySem.Challenge.RW_turnwires_k04_orders_and_kinds_of_wires
set_option Elab.async false
set_option linter.all false
set_option maxRecDepth 100000
namespace TW
/-! ### iteration -/
def it (f : Nat → Nat) : Nat → Nat → Nat
  | 0, x => x
  | k + 1, x => f (it f k x)
theorem it_add (f : Nat → Nat) (a b x : Nat) : it f (a + b) x = it f a (it f b x) := by
  induction a with
  | zero => rw [Nat.zero_add]; rfl
  | succ a ih => rw [Nat.succ_add]; show f (it f (a + b) x) = f (it f a (it f b x)); rw [ih]
theorem it_succ' (f : Nat → Nat) (k x : Nat) : it f (k + 1) x = it f k (f x) := it_add f k 1 x
/-- f leads the places below n to places below n, one to one -/
structure PermF (f : Nat → Nat) (n : Nat) : Prop where
  lt : ∀ x, x < n → f x < n
  inj : ∀ x y, x < n → y < n → f x = f y → x = y
theorem PermF.it_lt {f : Nat → Nat} {n : Nat} (P : PermF f n) (k : Nat) {x : Nat} (h : x < n) : it f k x < n := by
  induction k with
  | zero => exact h
  | succ k ih => exact P.lt _ ih
theorem PermF.it_inj {f : Nat → Nat} {n : Nat} (P : PermF f n) (k : Nat) {x y : Nat} (hx : x < n) (hy : y < n) (e : it f k x = it f k y) : x = y := by
  induction k with
  | zero => exact e
  | succ k ih => exact ih (P.inj _ _ (P.it_lt k hx) (P.it_lt k hy) e)
theorem nodup_le : ∀ (n : Nat) (l : List Nat), l.Nodup → (∀ x ∈ l, x < n) → l.length ≤ n
  | 0, l, _, h => by
    cases l with
    | nil => exact Nat.le_refl _
    | cons a r => exact absurd (h a List.mem_cons_self) (Nat.not_lt_zero _)
  | n + 1, l, nd, h => by
    have h1 : (l.erase n).Nodup := nd.erase n
    have h2 : ∀ x ∈ l.erase n, x < n := fun x hx => by
      have a := (List.Nodup.mem_erase_iff nd).mp hx
      have b := h x a.2
      have c := a.1
      omega
    have ih := nodup_le n (l.erase n) h1 h2
    have e : l.length ≤ (l.erase n).length + 1 := by
      rw [List.length_erase]
      split <;> omega
    omega
theorem not_nodup_of_long {n : Nat} {l : List Nat} (h : ∀ x ∈ l, x < n) (hl : n < l.length) : ¬ l.Nodup := fun nd => by
  have := nodup_le n l nd h
  omega
theorem exists_return {f : Nat → Nat} {n : Nat} (P : PermF f n) {p : Nat} (hp : p < n) : ∃ m, 0 < m ∧ m ≤ n ∧ it f m p = p := by
  by_cases hex : ∃ i j, i < j ∧ j ≤ n ∧ it f i p = it f j p
  · obtain ⟨i, j, hij, hj, e⟩ := hex
    refine ⟨j - i, by omega, by omega, ?_⟩
    have e2 : j = i + (j - i) := by omega
    rw [e2, it_add] at e
    exact (P.it_inj i hp (P.it_lt _ hp) e).symm
  · exfalso
    refine not_nodup_of_long (n := n) (l := (List.range (n + 1)).map fun k => it f k p) ?_ ?_ ?_
    · intro x hx
      obtain ⟨k, _, rfl⟩ := List.mem_map.mp hx
      exact P.it_lt k hp
    · rw [List.length_map, List.length_range]; omega
    · rw [List.nodup_iff_pairwise_ne, List.pairwise_map]
      refine List.Pairwise.imp_of_mem ?_ (List.pairwise_lt_range (n := n + 1))
      intro a b ha hb hab e
      exact hex ⟨a, b, hab, by have := List.mem_range.mp hb; omega, e⟩
/-- the least k ≥ 1 with it f k p = p, sought below n -/
def perA (f : Nat → Nat) (p : Nat) : Nat → Nat → Nat
  | 0, k => k
  | fuel + 1, k => if it f k p = p then k else perA f p fuel (k + 1)
def per (f : Nat → Nat) (n p : Nat) : Nat := perA f p n 1
theorem perA_spec (f : Nat → Nat) (p : Nat) : ∀ (fuel k m : Nat), k ≤ m → m < k + fuel → it f m p = p → (∀ i, 0 < i → i < k → it f i p ≠ p) → 0 < k →
    0 < perA f p fuel k ∧ it f (perA f p fuel k) p = p ∧ perA f p fuel k ≤ m ∧ ∀ i, 0 < i → i < perA f p fuel k → it f i p ≠ p
  | 0, k, m, h1, h2, _, _, _ => by omega
  | fuel + 1, k, m, h1, h2, e, hl, hk => by
    unfold perA
    by_cases c : it f k p = p
    · rw [if_pos c]
      exact ⟨hk, c, h1, hl⟩
    · rw [if_neg c]
      have hkm : k ≠ m := fun z => c (z ▸ e)
      refine perA_spec f p fuel (k + 1) m (by omega) (by omega) e (fun i i0 ik => ?_) (by omega)
      by_cases ci : i = k
      · rw [ci]; exact c
      · exact hl i i0 (by omega)
section
variable {f : Nat → Nat} {n : Nat} (P : PermF f n) {p : Nat} (hp : p < n)
include P hp
theorem per_spec : 0 < per f n p ∧ it f (per f n p) p = p ∧ per f n p ≤ n ∧ ∀ i, 0 < i → i < per f n p → it f i p ≠ p := by
  obtain ⟨m, h0, hm, e⟩ := exists_return P hp
  obtain ⟨a, b, c, d⟩ := perA_spec f p n 1 m (by omega) (by omega) e (fun i _ _ => by omega) (by omega)
  exact ⟨a, b, Nat.le_trans c hm, d⟩
theorem per_mod (k : Nat) : it f k p = it f (k % per f n p) p := by
  obtain ⟨h0, e, _, _⟩ := per_spec P hp
  have key : ∀ q r, it f (q * per f n p + r) p = it f r p := by
    intro q
    induction q with
    | zero => intro r; rw [Nat.zero_mul, Nat.zero_add]
    | succ q ih =>
      intro r
      rw [show (q + 1) * per f n p + r = (q * per f n p + r) + per f n p by rw [Nat.succ_mul]; omega, it_add, e]
      exact ih r
  conv => lhs; rw [← Nat.div_add_mod k (per f n p), Nat.mul_comm]
  exact key _ _
theorem it_inj_lt {i j : Nat} (hi : i < per f n p) (hj : j < per f n p) (e : it f i p = it f j p) : i = j := by
  obtain ⟨h0, _, _, hl⟩ := per_spec P hp
  have key : ∀ a b, a < b → b < per f n p → it f a p = it f b p → False := by
    intro a b hab hb e
    have e2 : b = a + (b - a) := by omega
    rw [e2, it_add] at e
    exact hl (b - a) (by omega) (by omega) (P.it_inj a hp (P.it_lt _ hp) e).symm
  rcases Nat.lt_trichotomy i j with h | h | h
  · exact (key i j h hj e).elim
  · exact h
  · exact (key j i h hi e.symm).elim
end
/-- the ring of p -/
def ring (f : Nat → Nat) (n p : Nat) : List Nat := (List.range (per f n p)).map fun k => it f k p
theorem ring_len (f : Nat → Nat) (n p : Nat) : (ring f n p).length = per f n p := by unfold ring; rw [List.length_map, List.length_range]
theorem ring_get (f : Nat → Nat) (n p k : Nat) (h : k < per f n p) : (ring f n p)[k]? = some (it f k p) := by
  unfold ring; rw [List.getElem?_map, List.getElem?_range h]; rfl
section
variable {f : Nat → Nat} {n : Nat} (P : PermF f n) {p x : Nat} (hp : p < n)
include P hp
theorem mem_ring : x ∈ ring f n p ↔ ∃ k, it f k p = x := by
  constructor
  · intro h
    obtain ⟨k, _, e⟩ := List.mem_map.mp h
    exact ⟨k, e⟩
  · rintro ⟨k, e⟩
    refine List.mem_map.mpr ⟨k % per f n p, List.mem_range.mpr (Nat.mod_lt _ (per_spec P hp).1), ?_⟩
    rw [← per_mod P hp, e]
theorem ring_lt (h : x ∈ ring f n p) : x < n := by
  obtain ⟨k, rfl⟩ := (mem_ring P hp).mp h
  exact P.it_lt k hp
theorem ring_nodup : (ring f n p).Nodup := by
  unfold ring
  rw [List.nodup_iff_pairwise_ne, List.pairwise_map]
  refine List.Pairwise.imp_of_mem ?_ (List.pairwise_lt_range (n := per f n p))
  intro a b ha hb hab e
  have := it_inj_lt P hp (List.mem_range.mp ha) (List.mem_range.mp hb) e
  omega
theorem self_ring : p ∈ ring f n p := (mem_ring P hp).mpr ⟨0, rfl⟩
theorem ring_symm (h : x ∈ ring f n p) : p ∈ ring f n x := by
  have hx := ring_lt P hp h
  obtain ⟨k, _, e⟩ := List.mem_map.mp h
  have hk := List.mem_range.mp ‹_›
  refine (mem_ring P hx).mpr ⟨per f n p - k, ?_⟩
  have e : it f k p = x := e
  rw [← e, ← it_add, Nat.sub_add_cancel (Nat.le_of_lt hk)]
  exact (per_spec P hp).2.1
theorem ring_trans {y : Nat} (h : x ∈ ring f n p) (h2 : y ∈ ring f n x) : y ∈ ring f n p := by
  have hx := ring_lt P hp h
  obtain ⟨k, e⟩ := (mem_ring P hp).mp h
  obtain ⟨j, e2⟩ := (mem_ring P hx).mp h2
  refine (mem_ring P hp).mpr ⟨j + k, ?_⟩
  rw [it_add, e, e2]
theorem ring_next (h : x ∈ ring f n p) : f x ∈ ring f n p := by
  obtain ⟨k, e⟩ := (mem_ring P hp).mp h
  exact (mem_ring P hp).mpr ⟨k + 1, by show f (it f k p) = f x; rw [e]⟩
theorem per_one : per f n p = 1 ↔ f p = p := by
  obtain ⟨h0, e, _, hl⟩ := per_spec P hp
  constructor
  · intro h
    rw [h] at e
    exact e
  · intro h
    rcases Nat.lt_or_ge 1 (per f n p) with c | c
    · exact absurd h (hl 1 (by omega) c)
    · omega
end
/-- p is the least of its ring -/
def lead (f : Nat → Nat) (n p : Nat) : Bool := (ring f n p).all fun x => decide (p ≤ x)
theorem lead_iff (f : Nat → Nat) (n p : Nat) : lead f n p = true ↔ ∀ x ∈ ring f n p, p ≤ x := by
  unfold lead
  rw [List.all_eq_true]
  constructor
  · intro h x hx; exact of_decide_eq_true (h x hx)
  · intro h x hx; exact decide_eq_true (h x hx)
theorem exists_min : ∀ (l : List Nat), l ≠ [] → ∃ m, m ∈ l ∧ ∀ x ∈ l, m ≤ x
  | [], h => absurd rfl h
  | [a], _ => ⟨a, List.mem_cons_self, fun x hx => by rw [List.mem_singleton.mp hx]; exact Nat.le_refl _⟩
  | a :: b :: r, _ => by
    obtain ⟨m, hm, hl⟩ := exists_min (b :: r) (by simp)
    by_cases c : a ≤ m
    · refine ⟨a, List.mem_cons_self, fun x hx => ?_⟩
      rcases List.mem_cons.mp hx with e | e
      · omega
      · have := hl x e; omega
    · refine ⟨m, List.mem_cons_of_mem _ hm, fun x hx => ?_⟩
      rcases List.mem_cons.mp hx with e | e
      · omega
      · exact hl x e
section
variable {f : Nat → Nat} {n : Nat} (P : PermF f n) {p : Nat} (hp : p < n)
include P hp
/-- the least of p's ring -/
theorem leader_of : ∃ q, q ≤ p ∧ lead f n q = true ∧ p ∈ ring f n q ∧ q ∈ ring f n p := by
  obtain ⟨q, hq, hl⟩ := exists_min (ring f n p) (fun z => by have := self_ring P hp; rw [z] at this; cases this)
  have hqn := ring_lt P hp hq
  refine ⟨q, hl p (self_ring P hp), (lead_iff f n q).mpr fun x hx => hl x (ring_trans P hp hq hx), ring_symm P hp hq, hq⟩
/-- p is no leader just if a lesser leader's ring has it -/
theorem not_lead_iff : lead f n p = false ↔ ∃ q, q < p ∧ lead f n q = true ∧ p ∈ ring f n q := by
  constructor
  · intro h
    obtain ⟨q, hqp, hl, hm, _⟩ := leader_of P hp
    refine ⟨q, ?_, hl, hm⟩
    rcases Nat.lt_or_ge q p with c | c
    · exact c
    · have e : q = p := by omega
      rw [e] at hl
      rw [hl] at h
      cases h
  · rintro ⟨q, hqp, hl, hm⟩
    have hqn : q < n := by omega
    have h2 := ring_symm P hqn hm
    cases c : lead f n p with
    | false => rfl
    | true =>
      have := (lead_iff f n p).mp c q h2
      omega
end
theorem lead_unique {f : Nat → Nat} {n : Nat} (P : PermF f n) {p q x : Nat} (hp : p < n) (hq : q < n) (lp : lead f n p = true) (lq : lead f n q = true) (h1 : x ∈ ring f n p) (h2 : x ∈ ring f n q) : p = q := by
  have hx := ring_lt P hp h1
  have a : p ∈ ring f n q := ring_trans P hq h2 (ring_symm P hp h1)
  have b : q ∈ ring f n p := ring_trans P hp h1 (ring_symm P hq h2)
  have c := (lead_iff f n q).mp lq p a
  have d := (lead_iff f n p).mp lp q b
  omega
/-- the rings of two or more places, of leaders below i -/
def heads (f : Nat → Nat) (n i : Nat) : List Nat := (List.range i).filter fun p => lead f n p && decide (f p ≠ p)
def ringsTo (f : Nat → Nat) (n i : Nat) : List (List Nat) := (heads f n i).map (ring f n)
def rings (f : Nat → Nat) (n : Nat) : List (List Nat) := ringsTo f n n
theorem ringsTo_succ (f : Nat → Nat) (n i : Nat) : ringsTo f n (i + 1) = ringsTo f n i ++ (if lead f n i = true ∧ f i ≠ i then [ring f n i] else []) := by
  unfold ringsTo heads
  rw [List.range_succ, List.filter_append, List.map_append]
  congr 1
  by_cases c : lead f n i = true ∧ f i ≠ i
  · rw [if_pos c, List.filter_cons_of_pos (by simp [c.1, c.2])]
    rfl
  · rw [if_neg c, List.filter_cons_of_neg (by simp only [Bool.and_eq_true, decide_eq_true_eq]; exact c)]
    rfl
theorem mem_heads {f : Nat → Nat} {n i p : Nat} : p ∈ heads f n i ↔ p < i ∧ lead f n p = true ∧ f p ≠ p := by
  unfold heads
  rw [List.mem_filter, List.mem_range, Bool.and_eq_true, decide_eq_true_eq]
end TW

namespace TW
/-! ### a ring's pairs -/
def rot (r : List Nat) : List Nat := r.drop 1 ++ r.take 1
def nxt (r : List Nat) : List (Nat × Nat) := r.zip (rot r)
def graph (f : Nat → Nat) (r : List Nat) : List (Nat × Nat) := r.map fun x => (x, f x)
/-- the ring is led on by f -/
def Follows (f : Nat → Nat) (r : List Nat) : Prop := nxt r = graph f r
theorem rot_len (r : List Nat) : (rot r).length = r.length := by
  unfold rot
  rw [List.length_append, List.length_drop, List.length_take]
  omega
theorem follows_iff {f : Nat → Nat} {r : List Nat} : Follows f r ↔ rot r = r.map f := by
  unfold Follows nxt graph
  constructor
  · intro h
    have e := congrArg (List.map Prod.snd) h
    rw [List.map_snd_zip (by rw [rot_len]; exact Nat.le_refl _), List.map_map] at e
    exact e
  · intro h
    rw [h]
    clear h
    induction r with
    | nil => rfl
    | cons a r ih => show (a, f a) :: r.zip (r.map f) = (a, f a) :: r.map (fun x => (x, f x)); rw [ih]
theorem follows_ring {f : Nat → Nat} {n : Nat} (P : PermF f n) {p : Nat} (hp : p < n) : Follows f (ring f n p) := by
  rw [follows_iff]
  obtain ⟨h0, e, _, _⟩ := per_spec P hp
  apply List.ext_getElem?
  intro i
  unfold rot
  rw [List.getElem?_append, List.length_drop, ring_len, List.getElem?_map]
  by_cases c : i < per f n p - 1
  · rw [if_pos c, List.getElem?_drop, ring_get f n p (1 + i) (by omega), ring_get f n p i (by omega)]
    rw [Nat.add_comm]
    rfl
  · rw [if_neg c]
    by_cases c2 : i = per f n p - 1
    · rw [c2, Nat.sub_self, ring_get f n p _ (by omega), List.getElem?_take]
      rw [if_pos (by omega), ring_get f n p 0 h0]
      show some p = some (f (it f (per f n p - 1) p))
      have : it f (per f n p - 1 + 1) p = f (it f (per f n p - 1) p) := rfl
      rw [← this, Nat.sub_add_cancel h0, e]
    · rw [List.getElem?_take]
      have l : (ring f n p)[i]? = none := List.getElem?_eq_none (by rw [ring_len]; omega)
      rw [l]
      by_cases c3 : i - (per f n p - 1) < 1
      · exfalso; omega
      · rw [if_neg c3]; rfl
/-! ### the heads, once more -/
theorem heads_sorted (f : Nat → Nat) (n i : Nat) : (heads f n i).Pairwise (· < ·) := List.Pairwise.filter _ List.pairwise_lt_range
theorem ext_sorted : ∀ {l m : List Nat}, l.Pairwise (· < ·) → m.Pairwise (· < ·) → (∀ x, x ∈ l ↔ x ∈ m) → l = m
  | [], [], _, _, _ => rfl
  | [], b :: m, _, _, h => absurd ((h b).mpr List.mem_cons_self) (by simp)
  | a :: l, [], _, _, h => absurd ((h a).mp List.mem_cons_self) (by simp)
  | a :: l, b :: m, hl, hm, h => by
    obtain ⟨ha, hl'⟩ := List.pairwise_cons.mp hl
    obtain ⟨hb, hm'⟩ := List.pairwise_cons.mp hm
    have e : a = b := by
      rcases List.mem_cons.mp ((h a).mp List.mem_cons_self) with q | q
      · exact q
      · rcases List.mem_cons.mp ((h b).mpr List.mem_cons_self) with q2 | q2
        · exact q2.symm
        · have := hb a q
          have := ha b q2
          omega
    subst e
    congr 1
    refine ext_sorted hl' hm' fun x => ?_
    constructor
    · intro hx
      rcases List.mem_cons.mp ((h x).mp (List.mem_cons_of_mem _ hx)) with q | q
      · have := ha x hx; omega
      · exact q
    · intro hx
      rcases List.mem_cons.mp ((h x).mpr (List.mem_cons_of_mem _ hx)) with q | q
      · have := hb x hx; omega
      · exact q
/-- sorted keys that hold all places that move give the same heads -/
theorem heads_of {f : Nat → Nat} {n : Nat} {ys : List Nat} (hs : ys.Pairwise (· < ·)) (hlt : ∀ y ∈ ys, y < n) (hall : ∀ x, x < n → f x ≠ x → x ∈ ys) :
    ys.filter (fun p => lead f n p && decide (f p ≠ p)) = heads f n n := by
  refine ext_sorted (List.Pairwise.filter _ hs) (heads_sorted f n n) fun x => ?_
  rw [mem_heads, List.mem_filter, Bool.and_eq_true, decide_eq_true_eq]
  constructor
  · rintro ⟨a, b, c⟩; exact ⟨hlt x a, b, c⟩
  · rintro ⟨a, b, c⟩; exact ⟨hall x a c, b, c⟩
/-! ### all rings in a row -/
theorem flatten_nodup {f : Nat → Nat} {n : Nat} (P : PermF f n) : ∀ {hs : List Nat}, hs.Pairwise (· < ·) → (∀ p ∈ hs, p < n ∧ lead f n p = true) → ((hs.map (ring f n)).flatten).Nodup
  | [], _, _ => by simp
  | p :: hs, h, hl => by
    obtain ⟨h1, h2⟩ := List.pairwise_cons.mp h
    obtain ⟨hp, lp⟩ := hl p List.mem_cons_self
    show (ring f n p ++ (hs.map (ring f n)).flatten).Nodup
    rw [List.nodup_append]
    refine ⟨ring_nodup P hp, flatten_nodup P h2 fun q hq => hl q (List.mem_cons_of_mem _ hq), fun a ha b hb e => ?_⟩
    subst e
    obtain ⟨r, hr, har⟩ := List.mem_flatten.mp hb
    obtain ⟨q, hq, rfl⟩ := List.mem_map.mp hr
    obtain ⟨hqn, lq⟩ := hl q (List.mem_cons_of_mem _ hq)
    have := h1 q hq
    have := lead_unique P hp hqn lp lq ha har
    omega
theorem rings_nodup {f : Nat → Nat} {n : Nat} (P : PermF f n) : (rings f n).flatten.Nodup :=
  flatten_nodup P (heads_sorted f n n) fun p hp => by obtain ⟨a, b, _⟩ := mem_heads.mp hp; exact ⟨a, b⟩
theorem rings_lt {f : Nat → Nat} {n : Nat} (P : PermF f n) {x : Nat} (h : x ∈ (rings f n).flatten) : x < n := by
  obtain ⟨r, hr, hx⟩ := List.mem_flatten.mp h
  obtain ⟨q, hq, rfl⟩ := List.mem_map.mp hr
  exact ring_lt P (mem_heads.mp hq).1 hx
theorem rings_all {f : Nat → Nat} {n : Nat} (P : PermF f n) {x : Nat} (hx : x < n) (hm : f x ≠ x) : x ∈ (rings f n).flatten := by
  obtain ⟨q, hq, lq, h1, h2⟩ := leader_of P hx
  have hqn : q < n := by omega
  refine List.mem_flatten.mpr ⟨ring f n q, List.mem_map.mpr ⟨q, mem_heads.mpr ⟨hqn, lq, fun e => ?_⟩, rfl⟩, h1⟩
  have o := (per_one P hqn).mpr e
  have l : ring f n q = [q] := by unfold ring; rw [o]; rfl
  rw [l] at h1
  rw [List.mem_singleton.mp h1] at hm
  exact hm e
theorem rings_ne {f : Nat → Nat} {n : Nat} (P : PermF f n) {r : List Nat} (h : r ∈ rings f n) : r ≠ [] := by
  obtain ⟨q, hq, rfl⟩ := List.mem_map.mp h
  intro e
  have := self_ring P (mem_heads.mp hq).1
  rw [e] at this
  cases this
theorem rings_follow {f : Nat → Nat} {n : Nat} (P : PermF f n) {r : List Nat} (h : r ∈ rings f n) : Follows f r := by
  obtain ⟨q, hq, rfl⟩ := List.mem_map.mp h
  exact follows_ring P (mem_heads.mp hq).1
theorem graph_append (f : Nat → Nat) (a b : List Nat) : graph f (a ++ b) = graph f a ++ graph f b := List.map_append
theorem graph_fst (f : Nat → Nat) (a : List Nat) : (graph f a).map Prod.fst = a := by
  unfold graph
  rw [List.map_map]
  show a.map (fun x => x) = a
  exact List.map_id' a
/-! ### a list as a map of its places -/
def ap (im : List Nat) (x : Nat) : Nat := im.getD x 0
structure IsPerm (im : List Nat) : Prop where
  nd : im.Nodup
  lt : ∀ x ∈ im, x < im.length
theorem ap_get {im : List Nat} {x : Nat} (h : x < im.length) : im[x]? = some (ap im x) := by
  unfold ap
  rw [List.getD_eq_getElem?_getD, List.getElem?_eq_getElem h]
  rfl
theorem ap_mem {im : List Nat} {x : Nat} (h : x < im.length) : ap im x ∈ im := List.mem_of_getElem? (ap_get h)
theorem IsPerm.perm {im : List Nat} (h : IsPerm im) : PermF (ap im) im.length where
  lt x hx := h.lt _ (ap_mem hx)
  inj x y hx hy e := by
    have a := ap_get hx
    have b := ap_get hy
    rw [e] at a
    obtain ⟨h1, e1⟩ := List.getElem?_eq_some_iff.mp a
    obtain ⟨h2, e2⟩ := List.getElem?_eq_some_iff.mp b
    exact (List.getElem_inj h.nd).mp (e1.trans e2.symm)
theorem im_eq (im : List Nat) : (List.range im.length).map (ap im) = im := by
  apply List.ext_getElem?
  intro i
  rw [List.getElem?_map]
  by_cases c : i < im.length
  · rw [List.getElem?_range c, ap_get c]; rfl
  · rw [List.getElem?_eq_none (by rw [List.length_range]; omega), List.getElem?_eq_none (by omega)]; rfl
end TW

namespace TW
/-! ### drawing -/
theorem isPerm_of {n : Nat} {im : List Nat} (h : im.Perm (List.range n)) : IsPerm im ∧ im.length = n := by
  have hl : im.length = n := by rw [h.length_eq, List.length_range]
  refine ⟨⟨h.nodup_iff.mpr List.nodup_range, fun x hx => ?_⟩, hl⟩
  rw [hl]
  exact List.mem_range.mp (h.mem_iff.mp hx)
theorem cons_erase_perm : ∀ {l : List Nat} {k x : Nat}, l[k]? = some x → (x :: l.eraseIdx k).Perm l
  | [], k, x, h => by simp at h
  | a :: l, 0, x, h => by
    have e : a = x := Option.some.inj h
    rw [e]
    exact List.Perm.refl _
  | a :: l, k + 1, x, h => by
    have ih := cons_erase_perm (l := l) (k := k) (x := x) h
    exact (List.Perm.swap a x (l.eraseIdx k)).trans (List.Perm.cons a ih)
theorem draw_step {n k x : Nat} {im rest : List Nat} (h : (im ++ rest).Perm (List.range n)) (hx : rest[k]? = some x) : ((im ++ [x]) ++ rest.eraseIdx k).Perm (List.range n) := by
  obtain ⟨hk, e⟩ := List.getElem?_eq_some_iff.mp hx
  refine List.Perm.trans ?_ h
  rw [List.append_assoc]
  refine List.Perm.append_left im ?_
  exact cons_erase_perm hx
theorem erase_map {α β : Type} (f : α → β) : ∀ (l : List α) (k : Nat), (l.map f).eraseIdx k = (l.eraseIdx k).map f
  | [], k => by simp
  | a :: l, 0 => rfl
  | a :: l, k + 1 => congrArg (List.cons (f a)) (erase_map f l k)
theorem erase_len {k x : Nat} {rest : List Nat} (hx : rest[k]? = some x) : (rest.eraseIdx k).length + 1 = rest.length := by
  obtain ⟨hk, _⟩ := List.getElem?_eq_some_iff.mp hx
  rw [List.length_eraseIdx_of_lt hk]
  omega
end TW

namespace TW
/-! ### a ring as it grows -/
def pref (f : Nat → Nat) (p k : Nat) : List Nat := (List.range k).map fun j => it f j p
theorem pref_succ (f : Nat → Nat) (p k : Nat) : pref f p (k + 1) = pref f p k ++ [it f k p] := by
  unfold pref
  rw [List.range_succ, List.map_append]
  rfl
theorem pref_len (f : Nat → Nat) (p k : Nat) : (pref f p k).length = k := by unfold pref; rw [List.length_map, List.length_range]
theorem ring_pref (f : Nat → Nat) (n p : Nat) : ring f n p = pref f p (per f n p) := rfl
section
variable {f : Nat → Nat} {n : Nat} (P : PermF f n) {p : Nat} (hp : p < n)
include P hp
theorem back_iff {j : Nat} (hj : j < per f n p) : it f (j + 1) p = p ↔ j + 1 = per f n p := by
  obtain ⟨h0, e, _, hl⟩ := per_spec P hp
  constructor
  · intro h
    rcases Nat.lt_or_ge (j + 1) (per f n p) with c | c
    · exact absurd h (hl (j + 1) (by omega) c)
    · omega
  · intro h; rw [h]; exact e
/-- who is met so far -/
theorem seen_lead {s : List Nat} (hs : ∀ x, x ∈ s ↔ ∃ q, q < p ∧ x ∈ ring f n q) : p ∈ s ↔ lead f n p = false := by
  rw [hs, not_lead_iff P hp]
  constructor
  · rintro ⟨q, hq, hm⟩
    have hqn : q < n := by omega
    obtain ⟨r, hr, lr, h1, h2⟩ := leader_of P hp
    have h3 := ring_symm P hqn hm
    have := (lead_iff f n r).mp lr q (ring_trans P (by omega) h1 h3)
    exact ⟨r, by omega, lr, h1⟩
  · rintro ⟨q, hq, _, hm⟩
    exact ⟨q, hq, hm⟩
theorem seen_skip {s : List Nat} (hs : ∀ x, x ∈ s ↔ ∃ q, q < p ∧ x ∈ ring f n q) (hm : p ∈ s) (x : Nat) : x ∈ s ↔ ∃ q, q < p + 1 ∧ x ∈ ring f n q := by
  constructor
  · intro h
    obtain ⟨q, hq, h2⟩ := (hs x).mp h
    exact ⟨q, by omega, h2⟩
  · rintro ⟨q, hq, h2⟩
    by_cases c : q = p
    · subst c
      obtain ⟨r, hr, h3⟩ := (hs q).mp hm
      exact (hs x).mpr ⟨r, hr, ring_trans P (by omega) h3 h2⟩
    · exact (hs x).mpr ⟨q, by omega, h2⟩
end
theorem seen_more {f : Nat → Nat} {n p : Nat} {s : List Nat} (hs : ∀ x, x ∈ s ↔ ∃ q, q < p ∧ x ∈ ring f n q) (x : Nat) : x ∈ s ++ ring f n p ↔ ∃ q, q < p + 1 ∧ x ∈ ring f n q := by
  rw [List.mem_append]
  constructor
  · rintro (h | h)
    · obtain ⟨q, hq, h2⟩ := (hs x).mp h
      exact ⟨q, by omega, h2⟩
    · exact ⟨p, by omega, h⟩
  · rintro ⟨q, hq, h2⟩
    by_cases c : q = p
    · subst c; exact .inr h2
    · exact .inl ((hs x).mpr ⟨q, by omega, h2⟩)
theorem ringsTo_skip {f : Nat → Nat} {n i : Nat} (h : lead f n i = false) : ringsTo f n (i + 1) = ringsTo f n i := by
  rw [ringsTo_succ, if_neg (by rw [h]; simp), List.append_nil]
theorem ringsTo_stay {f : Nat → Nat} {n i : Nat} (h : f i = i) : ringsTo f n (i + 1) = ringsTo f n i := by
  rw [ringsTo_succ, if_neg (fun c => c.2 h), List.append_nil]
theorem ringsTo_more {f : Nat → Nat} {n i : Nat} (h : lead f n i = true) (h2 : f i ≠ i) : ringsTo f n (i + 1) = ringsTo f n i ++ [ring f n i] := by
  rw [ringsTo_succ, if_pos ⟨h, h2⟩]
theorem heads_len (f : Nat → Nat) (n i : Nat) : (heads f n i).length ≤ i := by
  unfold heads
  exact Nat.le_trans (List.length_filter_le _ _) (by rw [List.length_range]; exact Nat.le_refl _)
theorem ringsTo_len (f : Nat → Nat) (n i : Nat) : (ringsTo f n i).length ≤ i := by
  unfold ringsTo
  rw [List.length_map]
  exact heads_len f n i
end TW

namespace TW
/-! ### the pairs of rings in a row -/
def pairs (rs : List (List Nat)) : List (Nat × Nat) := (rs.map nxt).flatten
theorem nxt_fst (r : List Nat) : (nxt r).map Prod.fst = r := by
  unfold nxt
  exact List.map_fst_zip (by rw [rot_len]; exact Nat.le_refl _)
theorem nxt_len (r : List Nat) : (nxt r).length = r.length := by
  have := congrArg List.length (nxt_fst r)
  rw [List.length_map] at this
  exact this
theorem pairs_fst (rs : List (List Nat)) : (pairs rs).map Prod.fst = rs.flatten := by
  unfold pairs
  induction rs with
  | nil => rfl
  | cons r rs ih =>
    show ((nxt r) ++ (rs.map nxt).flatten).map Prod.fst = r ++ rs.flatten
    rw [List.map_append, nxt_fst, ih]
theorem pairs_snoc {rs : List (List Nat)} {i : Nat} {r : List Nat} (h : rs[i]? = some r) : pairs (rs.take (i + 1)) = pairs (rs.take i) ++ nxt r := by
  unfold pairs
  rw [List.take_add_one, h, List.map_append, List.flatten_append]
  show _ ++ [nxt r].flatten = _
  rw [List.flatten_singleton]
theorem pairs_take_len (rs : List (List Nat)) (i : Nat) : (pairs (rs.take i)).length ≤ rs.flatten.length := by
  have e := congrArg List.length (pairs_fst (rs.take i))
  rw [List.length_map] at e
  rw [e]
  have h : rs.flatten = (rs.take i).flatten ++ (rs.drop i).flatten := by rw [← List.flatten_append, List.take_append_drop]
  rw [h, List.length_append]
  omega
/-- the j-th place of the i-th ring is not among those before -/
theorem not_before {rs : List (List Nat)} (hnd : rs.flatten.Nodup) {i j x : Nat} {r : List Nat} (h : rs[i]? = some r) (hx : r[j]? = some x) : x ∉ (pairs (rs.take i) ++ (nxt r).take j).map Prod.fst := by
  rw [List.map_append, pairs_fst, List.map_take, nxt_fst]
  obtain ⟨hi, ei⟩ := List.getElem?_eq_some_iff.mp h
  obtain ⟨hj, ej⟩ := List.getElem?_eq_some_iff.mp hx
  have e1 : rs = rs.take i ++ r :: rs.drop (i + 1) := by
    rw [← ei, List.getElem_cons_drop, List.take_append_drop]
  have e2 : r = r.take j ++ x :: r.drop (j + 1) := by
    rw [← ej, List.getElem_cons_drop, List.take_append_drop]
  rw [e1, List.flatten_append, List.flatten_cons] at hnd
  obtain ⟨_, h2, h3⟩ := List.nodup_append.mp hnd
  intro hm
  rcases List.mem_append.mp hm with q | q
  · exact h3 x q x (List.mem_append_left _ (List.mem_of_getElem? hx)) rfl
  · have h4 := (List.nodup_append.mp h2).1
    rw [e2] at h4
    have h5 := (List.nodup_append.mp h4).2.2
    exact h5 x q x List.mem_cons_self rfl
theorem nxt_get {r : List Nat} {j x y : Nat} (hx : r[j]? = some x) (hy : (rot r)[j]? = some y) : (nxt r)[j]? = some (x, y) := by
  unfold nxt
  rw [List.getElem?_zip_eq_some]
  exact ⟨hx, hy⟩
theorem take_snoc {α : Type} {l : List α} {j : Nat} {x : α} (h : l[j]? = some x) : l.take (j + 1) = l.take j ++ [x] := by
  rw [List.take_add_one, h]
  rfl
theorem pairs_follow {f : Nat → Nat} : ∀ {rs : List (List Nat)}, (∀ r ∈ rs, Follows f r) → pairs rs = graph f rs.flatten
  | [], _ => rfl
  | r :: rs, h => by
    show nxt r ++ pairs rs = graph f (r ++ rs.flatten)
    rw [graph_append, pairs_follow fun q hq => h q (List.mem_cons_of_mem _ hq), h r List.mem_cons_self]
end TW

namespace TW
/-! ### sorted keys -/
theorem perm_nat {ys : List Int} {ks : List Nat} (h : ys.Perm (ks.map fun (k : Nat) => (k : Int))) (hs : ys.Pairwise (· ≤ ·)) (hn : ks.Nodup) :
    ∃ zs : List Nat, ys = zs.map (fun (k : Nat) => (k : Int)) ∧ zs.Perm ks ∧ zs.Pairwise (· < ·) := by
  have hnn : ∀ y ∈ ys, 0 ≤ y := fun y hy => by
    obtain ⟨k, _, rfl⟩ := List.mem_map.mp (h.mem_iff.mp hy)
    omega
  have e : ys = (ys.map Int.toNat).map (fun (k : Nat) => (k : Int)) := by
    rw [List.map_map]
    have : ∀ l : List Int, (∀ y ∈ l, 0 ≤ y) → l = l.map ((fun (k : Nat) => (k : Int)) ∘ Int.toNat) := by
      intro l
      induction l with
      | nil => intro _; rfl
      | cons a l ih =>
        intro hl
        have h1 := hl a List.mem_cons_self
        have h2 := ih fun y hy => hl y (List.mem_cons_of_mem _ hy)
        rw [List.map_cons, ← h2]
        congr 1
        show a = ((a.toNat : Nat) : Int)
        omega
    exact this ys hnn
  have hp : (ys.map Int.toNat).Perm ks := by
    have := h.map Int.toNat
    rw [List.map_map] at this
    have e2 : ks.map (Int.toNat ∘ fun (k : Nat) => (k : Int)) = ks := by
      rw [show (Int.toNat ∘ fun (k : Nat) => (k : Int)) = id from funext fun k => by show ((k : Int)).toNat = k; omega]
      exact List.map_id ks
    rw [e2] at this
    exact this
  refine ⟨ys.map Int.toNat, e, hp, ?_⟩
  have nd : (ys.map Int.toNat).Nodup := hp.nodup_iff.mpr hn
  rw [List.nodup_iff_pairwise_ne] at nd
  have hle : (ys.map Int.toNat).Pairwise (· ≤ ·) := by
    rw [List.pairwise_map]
    exact hs.imp fun h => Int.toNat_le_toNat h
  exact (hle.and nd).imp fun ⟨a, b⟩ => Nat.lt_of_le_of_ne a b
/-- a head's own test -/
def headB (f : Nat → Nat) (n p : Nat) : Bool := lead f n p && decide (f p ≠ p)
theorem headB_iff {f : Nat → Nat} {n p : Nat} : headB f n p = true ↔ lead f n p = true ∧ f p ≠ p := by
  unfold headB
  rw [Bool.and_eq_true, decide_eq_true_eq]
def ringsIn (f : Nat → Nat) (n : Nat) (zs : List Nat) : List (List Nat) := (zs.filter (headB f n)).map (ring f n)
theorem ringsIn_more {f : Nat → Nat} {n : Nat} {zs : List Nat} {i y : Nat} (h : zs[i]? = some y) (hb : headB f n y = true) : ringsIn f n (zs.take (i + 1)) = ringsIn f n (zs.take i) ++ [ring f n y] := by
  unfold ringsIn
  rw [take_snoc h, List.filter_append, List.map_append, List.filter_cons_of_pos hb]
  rfl
theorem ringsIn_stay {f : Nat → Nat} {n : Nat} {zs : List Nat} {i y : Nat} (h : zs[i]? = some y) (hb : headB f n y = false) : ringsIn f n (zs.take (i + 1)) = ringsIn f n (zs.take i) := by
  unfold ringsIn
  rw [take_snoc h, List.filter_append, List.filter_cons_of_neg (by rw [hb]; simp), List.filter_nil, List.append_nil]
theorem ringsIn_len (f : Nat → Nat) (n : Nat) (zs : List Nat) : (ringsIn f n zs).length ≤ zs.length := by
  unfold ringsIn
  rw [List.length_map]
  exact List.length_filter_le _ _
theorem ringsIn_all {f : Nat → Nat} {n : Nat} {zs : List Nat} (hs : zs.Pairwise (· < ·)) (hlt : ∀ y ∈ zs, y < n) (hall : ∀ x, x < n → f x ≠ x → x ∈ zs) : ringsIn f n zs = rings f n := by
  unfold ringsIn rings ringsTo
  exact congrArg (List.map (ring f n)) (heads_of hs hlt hall)
/-- who is marked when the places zs.take i have been looked at -/
def Marked (f : Nat → Nat) (n : Nat) (zs : List Nat) (x : Nat) : Prop := ∃ q ∈ zs, headB f n q = true ∧ x ∈ ring f n q ∧ x ≠ q
section
variable {f : Nat → Nat} {n : Nat} (P : PermF f n) {zs : List Nat} (hs : zs.Pairwise (· < ·)) (hlt : ∀ y ∈ zs, y < n) (hall : ∀ x, x < n → f x ≠ x → x ∈ zs) {i y : Nat} (hy : zs[i]? = some y)
include P hs hlt hall hy
theorem mem_take_of_lt {q : Nat} (hq : q ∈ zs) (hl : q < y) : q ∈ zs.take i := by
  obtain ⟨hi, ey⟩ := List.getElem?_eq_some_iff.mp hy
  obtain ⟨j, hj, e⟩ := List.mem_iff_getElem.mp hq
  rw [List.mem_take_iff_getElem]
  have hji : j < i := by
    rcases Nat.lt_trichotomy j i with c | c | c
    · exact c
    · subst c; rw [e] at ey; omega
    · have := (List.pairwise_iff_getElem.mp hs) i j hi hj c
      rw [ey, e] at this
      omega
  exact ⟨j, by omega, e⟩
theorem lt_of_mem_take {q : Nat} (hq : q ∈ zs.take i) : q < y := by
  obtain ⟨hi, ey⟩ := List.getElem?_eq_some_iff.mp hy
  obtain ⟨j, hj, e⟩ := List.mem_take_iff_getElem.mp hq
  have hj' : j < i := by omega
  have := (List.pairwise_iff_getElem.mp hs) j i (by omega) hi hj'
  rw [ey, e] at this
  exact this
/-- marked just if no leader -/
theorem marked_iff : Marked f n (zs.take i) y ↔ lead f n y = false := by
  have hyn : y < n := hlt y (List.mem_of_getElem? hy)
  constructor
  · rintro ⟨q, hq, hb, hm, hne⟩
    have hqn : q < n := hlt q (List.mem_of_mem_take hq)
    exact (not_lead_iff P hyn).mpr ⟨q, lt_of_mem_take P hs hlt hall hy hq, (headB_iff.mp hb).1, hm⟩
  · intro h
    obtain ⟨q, hq, lq, hm⟩ := (not_lead_iff P hyn).mp h
    have hqn : q < n := by omega
    have hfq : f q ≠ q := fun e => by
      have o := (per_one P hqn).mpr e
      have l : ring f n q = [q] := by unfold ring; rw [o]; rfl
      rw [l] at hm
      have := List.mem_singleton.mp hm
      omega
    exact ⟨q, mem_take_of_lt P hs hlt hall hy (hall q hqn hfq) hq, headB_iff.mpr ⟨lq, hfq⟩, hm, by omega⟩
end
theorem marked_stay {f : Nat → Nat} {n : Nat} {zs : List Nat} {i y : Nat} (hy : zs[i]? = some y) (hb : headB f n y = false) (x : Nat) : Marked f n (zs.take (i + 1)) x ↔ Marked f n (zs.take i) x := by
  unfold Marked
  rw [take_snoc hy]
  constructor
  · rintro ⟨q, hq, h1, h2⟩
    rcases List.mem_append.mp hq with h | h
    · exact ⟨q, h, h1, h2⟩
    · rw [List.mem_singleton.mp h, hb] at h1; cases h1
  · rintro ⟨q, hq, h⟩
    exact ⟨q, List.mem_append_left _ hq, h⟩
theorem marked_more {f : Nat → Nat} {n : Nat} {zs : List Nat} {i y : Nat} (hy : zs[i]? = some y) (hb : headB f n y = true) (x : Nat) : Marked f n (zs.take (i + 1)) x ↔ Marked f n (zs.take i) x ∨ (x ∈ ring f n y ∧ x ≠ y) := by
  unfold Marked
  rw [take_snoc hy]
  constructor
  · rintro ⟨q, hq, h1, h2⟩
    rcases List.mem_append.mp hq with h | h
    · exact .inl ⟨q, h, h1, h2⟩
    · rw [List.mem_singleton.mp h] at h2; exact .inr h2
  · rintro (⟨q, hq, h⟩ | h)
    · exact ⟨q, List.mem_append_left _ hq, h⟩
    · exact ⟨y, List.mem_append_right _ List.mem_cons_self, hb, h⟩
/-- the ring but its first place -/
theorem ring_tail {f : Nat → Nat} {n : Nat} (P : PermF f n) {p x : Nat} (hp : p < n) : (x ∈ ring f n p ∧ x ≠ p) ↔ ∃ k, 1 ≤ k ∧ k < per f n p ∧ x = it f k p := by
  constructor
  · rintro ⟨h, hne⟩
    obtain ⟨k, hk, e⟩ := List.mem_map.mp h
    have hk' := List.mem_range.mp hk
    have e : it f k p = x := e
    refine ⟨k, ?_, hk', e.symm⟩
    rcases Nat.eq_zero_or_pos k with c | c
    · subst c; exact absurd e.symm hne
    · exact c
  · rintro ⟨k, k1, k2, rfl⟩
    exact ⟨(mem_ring P hp).mpr ⟨k, rfl⟩, (per_spec P hp).2.2.2 k k1 k2⟩
end TW

namespace TW
/-! ### a list's own map -/
theorem isPerm_of_graph {n : Nat} {f : Nat → Nat} (P : PermF f n) : IsPerm ((List.range n).map f) := by
  refine ⟨?_, ?_⟩
  · rw [List.nodup_iff_pairwise_ne, List.pairwise_map]
    refine List.Pairwise.imp_of_mem ?_ (List.pairwise_lt_range (n := n))
    intro a b ha hb hab e
    have := P.inj a b (List.mem_range.mp ha) (List.mem_range.mp hb) e
    omega
  · intro x hx
    rw [List.length_map, List.length_range]
    obtain ⟨k, hk, rfl⟩ := List.mem_map.mp hx
    exact P.lt _ (List.mem_range.mp hk)
theorem rings_stay {f : Nat → Nat} {n : Nat} (P : PermF f n) {x : Nat} (hx : x < n) (h : x ∉ (rings f n).flatten) : f x = x := by
  by_cases c : f x = x
  · exact c
  · exact absurd (rings_all P hx c) h
theorem sum_le : ∀ {rs : List (List Nat)}, (rs.map List.length).sum = rs.flatten.length
  | [] => rfl
  | r :: rs => by rw [List.map_cons, List.sum_cons, List.flatten_cons, List.length_append, sum_le (rs := rs)]
theorem rings_total {f : Nat → Nat} {n : Nat} (P : PermF f n) : (rings f n).flatten.length ≤ n := nodup_le n _ (rings_nodup P) fun _ h => rings_lt P h
/-- the least common multiple of the lengths -/
def lcmTo (rs : List (List Nat)) : Nat := rs.foldl (fun l r => Nat.lcm l r.length) 1
theorem lcmTo_snoc {rs : List (List Nat)} {i : Nat} {r : List Nat} (h : rs[i]? = some r) : lcmTo (rs.take (i + 1)) = Nat.lcm (lcmTo (rs.take i)) r.length := by
  unfold lcmTo
  rw [take_snoc h, List.foldl_append]
  rfl
theorem lcm_le {a b : Nat} : Nat.lcm a b ≤ a * b := Nat.div_le_self _ _
theorem lcm_fold_le : ∀ (rs : List (List Nat)) (a : Nat), rs.foldl (fun l r => Nat.lcm l r.length) a ≤ a * 2 ^ (rs.map List.length).sum
  | [], a => by simp
  | r :: rs, a => by
    show rs.foldl _ (Nat.lcm a r.length) ≤ _
    refine Nat.le_trans (lcm_fold_le rs _) ?_
    rw [List.map_cons, List.sum_cons, Nat.pow_add, ← Nat.mul_assoc]
    exact Nat.mul_le_mul_right _ (Nat.le_trans lcm_le (Nat.mul_le_mul_left a (Nat.le_of_lt Nat.lt_two_pow_self)))
theorem lcmTo_lt {f : Nat → Nat} {n : Nat} (P : PermF f n) (hn : n ≤ 60) (i : Nat) : lcmTo ((rings f n).take i) < 2 ^ 64 := by
  refine Nat.lt_of_le_of_lt (lcm_fold_le _ 1) ?_
  have h1 : (((rings f n).take i).map List.length).sum ≤ n := by
    rw [sum_le]
    have h : (rings f n).flatten = ((rings f n).take i).flatten ++ ((rings f n).drop i).flatten := by rw [← List.flatten_append, List.take_append_drop]
    have := rings_total P
    rw [h, List.length_append] at this
    omega
  rw [Nat.one_mul]
  exact Nat.lt_of_le_of_lt (Nat.pow_le_pow_right (by decide) (Nat.le_trans h1 hn)) (by decide)
theorem lcmTo_pos {rs : List (List Nat)} (h : ∀ r ∈ rs, r ≠ []) : 0 < lcmTo rs := by
  unfold lcmTo
  have : ∀ (rs : List (List Nat)) (a : Nat), 0 < a → (∀ r ∈ rs, r ≠ []) → 0 < rs.foldl (fun l r => Nat.lcm l r.length) a := by
    intro rs
    induction rs with
    | nil => intro a ha _; exact ha
    | cons r rs ih =>
      intro a ha hr
      refine ih _ (Nat.lcm_pos ha ?_) fun q hq => hr q (List.mem_cons_of_mem _ hq)
      exact List.length_pos_iff.mpr (hr r List.mem_cons_self)
  exact this rs 1 (by decide) h
end TW

namespace TW
/-! ### swapping -/
theorem map_set (g : Nat → Nat) (n a v : Nat) : ((List.range n).map g).set a v = (List.range n).map fun x => if x = a then v else g x := by
  apply List.ext_getElem?
  intro i
  rw [List.getElem?_set, List.getElem?_map, List.getElem?_map, List.length_map, List.length_range]
  by_cases hi : i < n
  · rw [List.getElem?_range hi]
    by_cases c : a = i
    · subst c
      rw [if_pos rfl, if_pos hi]
      simp
    · rw [if_neg c]
      simp [Ne.symm c]
  · rw [List.getElem?_eq_none (show (List.range n).length ≤ i by rw [List.length_range]; omega)]
    by_cases c : a = i
    · rw [if_pos c, if_neg (by omega)]; rfl
    · rw [if_neg c]; rfl
/-- g swaps places; it stays where the drawn places from 2 i on are -/
structure Swp (mx : List Nat) (n i : Nat) (g : Nat → Nat) : Prop where
  lt : ∀ x, x < n → g x < n
  inv : ∀ x, x < n → g (g x) = x
  rest : ∀ x ∈ mx.drop (2 * i), g x = x
def swp (g : Nat → Nat) (a b : Nat) : Nat → Nat := fun x => if x = b then a else if x = a then b else g x
theorem Swp.start {mx : List Nat} {n : Nat} : Swp mx n 0 id := ⟨fun _ h => h, fun _ _ => rfl, fun _ _ => rfl⟩
theorem Swp.more {mx : List Nat} {n i a b : Nat} {g : Nat → Nat} (S : Swp mx n i g) (hm : IsPerm mx) (hl : mx.length = n) (ha : mx[2 * i]? = some a) (hb : mx[2 * i + 1]? = some b) : Swp mx n (i + 1) (swp g a b) := by
  obtain ⟨h1, e1⟩ := List.getElem?_eq_some_iff.mp ha
  obtain ⟨h2, e2⟩ := List.getElem?_eq_some_iff.mp hb
  have han : a < n := by rw [← hl]; exact hm.lt a (List.mem_of_getElem? ha)
  have hbn : b < n := by rw [← hl]; exact hm.lt b (List.mem_of_getElem? hb)
  have hab : a ≠ b := fun e => by
    rw [← e1, ← e2] at e
    have := (List.getElem_inj hm.nd).mp e
    omega
  have mem : ∀ j x, mx[j]? = some x → 2 * i ≤ j → x ∈ mx.drop (2 * i) := fun j x hx hj => by
    refine List.mem_of_getElem? (i := j - 2 * i) ?_
    rw [List.getElem?_drop, show 2 * i + (j - 2 * i) = j by omega]
    exact hx
  have ga : g a = a := S.rest a (mem _ _ ha (by omega))
  have gb : g b = b := S.rest b (mem _ _ hb (by omega))
  have gne : ∀ x, x < n → x ≠ a → x ≠ b → g x ≠ a ∧ g x ≠ b := fun x hx hxa hxb =>
    ⟨fun e => hxa (by have := S.inv x hx; rw [e, ga] at this; exact this.symm), fun e => hxb (by have := S.inv x hx; rw [e, gb] at this; exact this.symm)⟩
  refine ⟨fun x hx => ?_, fun x hx => ?_, fun x hx => ?_⟩
  · unfold swp
    split
    · exact han
    · split
      · exact hbn
      · exact S.lt x hx
  · unfold swp
    by_cases c1 : x = b
    · subst c1
      rw [if_pos rfl, if_neg hab, if_pos rfl]
    · rw [if_neg c1]
      by_cases c2 : x = a
      · subst c2
        rw [if_pos rfl, if_pos rfl]
      · obtain ⟨n1, n2⟩ := gne x hx c2 c1
        rw [if_neg c2, if_neg n2, if_neg n1]
        exact S.inv x hx
  · obtain ⟨j, hj⟩ := List.mem_iff_getElem?.mp hx
    rw [List.getElem?_drop] at hj
    have hx' : mx[2 * (i + 1) + j]? = some x := hj
    obtain ⟨h3, e3⟩ := List.getElem?_eq_some_iff.mp hx'
    have n1 : x ≠ a := fun e => by
      rw [← e3, ← e1] at e
      have := (List.getElem_inj hm.nd).mp e
      omega
    have n2 : x ≠ b := fun e => by
      rw [← e3, ← e2] at e
      have := (List.getElem_inj hm.nd).mp e
      omega
    unfold swp
    rw [if_neg n2, if_neg n1]
    exact S.rest x (mem _ _ hx' (by omega))
theorem Swp.perm {mx : List Nat} {n i : Nat} {g : Nat → Nat} (S : Swp mx n i g) : PermF g n := ⟨S.lt, fun x y hx hy e => by rw [← S.inv x hx, ← S.inv y hy, e]⟩
theorem swp_list (g : Nat → Nat) (n a b : Nat) : (((List.range n).map g).set a b).set b a = (List.range n).map (swp g a b) := by
  rw [map_set, map_set]
  rfl
/-- all places are led back -/
def swB (im : List Nat) : Bool := (List.range im.length).all fun p => decide (ap im (ap im p) = p)
def mvB (im : List Nat) : Bool := (List.range im.length).all fun p => decide (ap im p ≠ p)
/-! ### the least multiple -/
theorem lcm_of_le {a b k : Nat} (ha : 0 < a) (h : b ∣ k * a) (hk : 0 < k) (hmin : ∀ j, 0 < j → j < k → ¬ b ∣ j * a) : k * a = Nat.lcm a b := by
  have h1 : Nat.lcm a b ∣ k * a := Nat.lcm_dvd (Nat.dvd_mul_left a k) h
  obtain ⟨c, hc⟩ := Nat.dvd_lcm_left a b
  have hb : 0 < b := by
    rcases Nat.eq_zero_or_pos b with z | z
    · subst z
      have := Nat.eq_zero_of_zero_dvd h
      have := Nat.mul_pos hk ha
      omega
    · exact z
  have hl : 0 < Nat.lcm a b := Nat.lcm_pos ha hb
  have hcpos : 0 < c := by
    rcases Nat.eq_zero_or_pos c with z | z
    · rw [z, Nat.mul_zero] at hc; omega
    · exact z
  have hck : c ≤ k := by
    have := Nat.le_of_dvd (Nat.mul_pos hk ha) h1
    rw [hc, Nat.mul_comm a c] at this
    exact Nat.le_of_mul_le_mul_right this ha
  rcases Nat.lt_or_ge c k with z | z
  · exfalso
    refine hmin c hcpos z ?_
    rw [Nat.mul_comm, ← hc]
    exact Nat.dvd_lcm_right a b
  · have : k = c := by omega
    rw [this, Nat.mul_comm, ← hc]
end TW

namespace TW
open PySem PySem.Spec PyProof.Rows L2
/-! ### dict(enumerate(list)) -/
/-- the places from k on, to the values -/
def enumKV : Nat → List V → List (Key × V)
  | _, [] => []
  | k, x :: xs => (Sum.inl (k : Int), x) :: enumKV (k + 1) xs
theorem enumKV_get : ∀ (xs : List V) (k i : Nat), (enumKV k xs)[i]? = (xs[i]?).map fun x => (Sum.inl ((k + i : Nat) : Int), x)
  | [], k, i => by simp [enumKV]
  | x :: xs, k, 0 => by simp [enumKV]
  | x :: xs, k, i + 1 => by
    show (enumKV (k + 1) xs)[i]? = _
    rw [enumKV_get xs (k + 1) i, show k + 1 + i = k + (i + 1) by omega]
    rfl
def enumKW : Nat → List Value → List (Key × Value)
  | _, [] => []
  | k, x :: xs => (Sum.inl (k : Int), x) :: enumKW (k + 1) xs
theorem enumKW_len : ∀ (xs : List Value) (k : Nat), (enumKW k xs).length = xs.length
  | [], _ => rfl
  | _ :: xs, k => congrArg Nat.succ (enumKW_len xs (k + 1))
theorem enumKW_get : ∀ (xs : List Value) (k i : Nat), (enumKW k xs)[i]? = (xs[i]?).map fun x => (Sum.inl ((k + i : Nat) : Int), x)
  | [], k, i => by simp [enumKW]
  | x :: xs, k, 0 => by simp [enumKW]
  | x :: xs, k, i + 1 => by
    show (enumKW (k + 1) xs)[i]? = _
    rw [enumKW_get xs (k + 1) i, show k + 1 + i = k + (i + 1) by omega]
    rfl
theorem enumK_rel : ∀ {xs : List V} {us : List Value} (k : Nat), Vals xs us → KV (enumKV k xs) (enumKW k us)
  | _, _, _, .nil => .nil
  | _, _, k, .cons r t => .cons ⟨rfl, r⟩ (enumK_rel (k + 1) t)
section
variable {X : Cx}
def tDictEnum (K : PySem.W.Frag) (ta : TE) : TE := fun σ H Q => ta σ H fun x H1 => ∃ a xs, x = .ref a ∧ SqL K H1 a xs ∧ ∀ p, H1 p = none → Q (.ref p) (upd H1 p (.dK (mergeK [] (enumKV 0 xs))))
theorem pe_dictEnum {e : Expr} {ta : TE} {p p2 pos pos2 : Pos} (hc : X.calm = true) (hg : Gl X "dict") (hm : X.mg "dict" = none) (hg2 : Gl X "enumerate") (hm2 : X.mg "enumerate" = none) (ha : PE X e ta)
    (n1 : starEach [.Call (.Name "enumerate" p2) [e] [] pos2] X.env = (false, eval (.Call (.Name "enumerate" p2) [e] [] pos2) X.env) :: starEach [] X.env := by rfl)
    (n2 : starEach [e] X.env = (false, eval e X.env) :: starEach [] X.env := by rfl) :
    PE X (.Call (.Name "dict" p) [.Call (.Name "enumerate" p2) [e] [] pos2] [] pos) (tDictEnum X.K ta) := by
  refine ⟨fun pins s σ H Q I h => ?_⟩
  refine Call_ (ld_blt I hg hm boot_dict (PyProof.Rows.callWith_type1 (args_cons ?_ n1) n1))
  refine Call_ (ld_blt I hg2 hm2 boot_enumerate (PyProof.Rows.callWith_type1 (one_arg ha I h (fun v s1 x H1 I1 r1 q1 => ?_) n2) n2))
  obtain ⟨a, xs, ex, hq, q⟩ := q1
  subst ex
  cases r1
  obtain ⟨its, rv, pl, hz⟩ := I1.list hq
  have hal : a < s1.heap.objs.size := by obtain ⟨_, q, _⟩ := pl.isList; exact Heap.lt_size q
  refine call_enumerate_list pl.isList fun h' he hit hsz hk => args_nil ?_
  have P := PySem.PairArg.enumerate (prog := X.prog) (w := X.w) (s1.heap.objs.size + 1) s1.heap.objs.size a (Nat.succ_ne_self _) (Nat.ne_of_lt (Nat.lt_succ_of_lt hal)) (Nat.ne_of_lt hal) its.toArray
  have I2 : Inv X pins σ H1 { s1 with heap := h' } := I1.kept (t' := s1.toks) hk
  refine PySem.call_dict_pairs (s := { s1 with heap := h' }) (knd := mixKind X.prog X.w) (kvs := enumKW 0 its) P (I.ok.hd hc) ⟨⟨_, he⟩, hit, pl.isList.at fun o q => hk _ o q⟩ ⟨?_, ?_⟩ ?_ ?_
  · rw [enumKW_len]; simp
  · rintro i key v ⟨⟨t, rfl⟩, hv⟩
    refine ⟨Sum.inl (i : Int), ?_, mixKind_int X.prog X.w _ _⟩
    rw [enumKW_get]
    have : its[i]? = some v := by simpa using hv
    rw [this, Nat.zero_add]
    rfl
  · simpa [← rv.length] using hz
  · intro h2 tk hd hk2
    have hbig : (h'.objs.size == sysModules) = false := beq_eq_false_iff_ne.mpr (Nat.ne_of_gt I2.big)
    have hlen : (mergeK [] (enumKV 0 xs)).length ≤ sizeLine := by
      refine Nat.le_trans (length_mergeK _ []) ?_
      rw [List.length_nil, Nat.zero_add, (enumK_rel 0 rv).length, enumKW_len, ← rv.length]
      exact hz
    have keep : ∀ b u, s1.heap.get? b = some u → h2.get? b = some u := fun b u e => by
      refine hk2 b u (fun hb => ?_) (hk b u e)
      have hbl := Heap.lt_size e
      have : b = s1.heap.objs.size + 1 ∨ b = s1.heap.objs.size := by simpa using hb
      rcases this with e' | e'
      · rw [e'] at hbl; exact absurd hbl (Nat.not_lt.mpr (Nat.le_succ _))
      · rw [e'] at hbl; exact absurd hbl (Nat.lt_irrefl _)
    have dk : ObjOk X.prog X.w (upd H1 h'.objs.size (.dK (mergeK [] (enumKV 0 xs)))) h2 h'.objs.size (.dK (mergeK [] (enumKV 0 xs))) :=
      ⟨hlen, hbig, merged [] (enumKW 0 its), KV.merge (enumK_rel 0 rv) .nil, hd⟩
    refine ⟨.ref h'.objs.size, _, I1.laid (t' := tk) keep (by omega) dk, rfl, q _ (I2.hok.fresh (Nat.le_refl _))⟩
end
end TW

namespace TW
open PySem PySem.Spec PyProof.Rows L2
section
variable {X : Cx}
/-- lcm(a, b) -/
def rLcm : List V → Hp → VK → Prop := fun vs H Q => ∃ a b : Nat, vs = [.int (a : Int), .int (b : Int)] ∧ a < 2 ^ 64 ∧ b < 2 ^ 64 ∧ Q (.int ((Nat.lcm a b : Nat) : Int)) H
theorem cr_lcm : CallR X (.builtin "math.lcm") rLcm := by
  intro pins s σ H vs us Q I r h
  obtain ⟨a, b, rfl, ha, hb, q⟩ := h
  obtain ⟨t, u, rfl⟩ := Vals.int2 r
  have e : (((Nat.lcm 1 (a : Int).natAbs).lcm (b : Int).natAbs : Nat) : Int) = ((Nat.lcm a b : Nat) : Int) := by
    rw [Int.natAbs_natCast, Int.natAbs_natCast, Nat.lcm_one_left]
  refine PySem.W.mg_lcm_v (by rw [Int.natAbs_natCast]; exact ha) (by rw [Int.natAbs_natCast]; exact hb) e ?_ ⟨.int _, H, I.tok _, ⟨_, rfl⟩, q⟩
  rw [Int.natAbs_natCast]
  have h1 : Nat.lcm a b < 2 ^ 128 := by
    refine Nat.lt_of_le_of_lt (Nat.div_le_self _ _) ?_
    calc a * b ≤ a * 2 ^ 64 := Nat.mul_le_mul_left _ (Nat.le_of_lt hb)
      _ < 2 ^ 64 * 2 ^ 64 := by omega
      _ = 2 ^ 128 := by decide
  rw [bitsLine_eq]
  by_cases z : Nat.lcm a b = 0
  · rw [z]; decide
  · exact Nat.lt_trans ((Nat.log2_lt z).mpr h1) (by decide)
end
/-! ### defs, methods, classes with their promises -/
section
variable (P : Program) (w : World) (K : PySem.W.Frag) (mg : Str → Option Value) (base : Heap)
/-- the def that the module's name x holds keeps sp; dvs: the defaults that fill up -/
def DefOk (CX : CXT) (k : Nat) (x : Str) (ps : List Str) (dvs : List V) (sp : Sp) : Prop :=
  ∃ (f : Addr) (fd : FuncData) (ds : List Value), mg x = some (.ref f) ∧ PySem.W.keepIn K (.ref f) = true ∧ Binds K fd ps ds ∧ Vals dvs ds ∧ FnOk P w K mg base CX k f fd ps sp
/-- the method m of the class at C -/
def MethOk (CX : CXT) (k : Nat) (C : Addr) (m : Str) (ps : List Str) (dvs : List V) (sp : Sp) : Prop :=
  ∃ (f : Addr) (fd : FuncData) (ds : List Value), Meth K C m f ∧ Binds K fd ps ds ∧ Vals dvs ds ∧ FnOk P w K mg base CX k f fd ps sp
/-- the class at C, by the module's name x, its __init__ -/
def MakeOk (CX : CXT) (k : Nat) (C : Addr) (x : Str) (ps : List Str) (dvs : List V) (sp : Sp) : Prop :=
  mg x = some (.ref C) ∧ ∃ (f : Addr) (fd : FuncData) (ds : List Value), Mk K C f ∧ Binds K fd ps ds ∧ Vals dvs ds ∧ FnOk P w K mg base CX k f fd ps sp
end
section
variable {X : Cx} {CX : CXT} {k k' : Nat} {ps : List Str} {sp : Sp} {dvs : List V} {E : XK} {x m : Str} {p pos apos : Pos} {e o : Expr} {es : List Expr} {ta : TE} {t : TA} {C : Addr}
theorem pe_d (D : DefOk X.prog X.w X.K X.mg X.base CX k x ps dvs sp) (hr : Room k' X.A) (hx : Passes CX X E) (ha : PA X (e :: es) t) (hk : k ≤ k' := by decide) (hg : Gl X x := by rfl) (hdb : (x == ("__debug__" : Str)) = false := by decide)
    (he : starEach (e :: es) X.env = (false, eval e X.env) :: starEach es X.env := by rfl) (hpl : (backTo pos (starEach es X.env)).any (·.1) = false := by rfl) :
    PE X (.Call (.Name x p) (e :: es) [] pos) (tCall sp dvs E t) := by
  obtain ⟨f, fd, ds, hm, kp, hb, hd, F⟩ := D
  exact pe_call F (hr.mono hk) hg hm kp hb hd hx ha hdb he hpl
theorem pe_m {pl : Sem Bool} (D : MethOk X.prog X.w X.K X.mg X.base CX k C m ps dvs sp) (c : Cls X.K C) (hr : Room k' X.A) (hx : Passes CX X E) (he : PE X o ta) (ha : PA X (e :: es) t) (hk : k ≤ k' := by decide)
    (hst : starEach (e :: es) X.env = (false, eval e X.env) :: starEach es X.env := by rfl) (hpl : (backTo pos (starEach es X.env)).any (·.1) = false := by rfl)
    (ht : eval (.Call (.Attribute o m apos) (e :: es) [] pos) X.env = (do
      let ov ← eval o X.env
      standAt apos.atName
      let (f, first) ← holding [ov] (getMethod ov m pl)
      callWith pos f first (backTo pos (starEach (e :: es) X.env)) (backToKw pos (keywordEach [] X.env))) := by rfl) :
    PE X (.Call (.Attribute o m apos) (e :: es) [] pos) (tMeth C m sp dvs E ta t) := by
  obtain ⟨f, fd, ds, hm, hb, hd, F⟩ := D
  exact pe_meth he c hm F (hr.mono hk) hb hd hx ha hst hpl ht
theorem pe_m0 {pl : Sem Bool} (D : MethOk X.prog X.w X.K X.mg X.base CX k C m ps dvs sp) (c : Cls X.K C) (hr : Room k' X.A) (hx : Passes CX X E) (he : PE X o ta) (hk : k ≤ k' := by decide)
    (ht : eval (.Call (.Attribute o m apos) [] [] pos) X.env = (do
      let ov ← eval o X.env
      standAt apos.atName
      let (f, first) ← holding [ov] (getMethod ov m pl)
      callWith pos f first (backTo pos (starEach [] X.env)) (backToKw pos (keywordEach [] X.env))) := by rfl) :
    PE X (.Call (.Attribute o m apos) [] [] pos) (tMeth C m sp dvs E ta tNil) := by
  obtain ⟨f, fd, ds, hm, hb, hd, F⟩ := D
  exact pe_meth0 he c hm F (hr.mono hk) hb hd hx ht
theorem pe_mk' (D : MakeOk X.prog X.w X.K X.mg X.base CX k C x ps dvs sp) (hr : Room k' X.A) (hx : Passes CX X E) (ha : PA X (e :: es) t) (hk : k + 1 ≤ k' := by decide) (hg : Gl X x := by rfl) (hdb : (x == ("__debug__" : Str)) = false := by decide)
    (he : starEach (e :: es) X.env = (false, eval e X.env) :: starEach es X.env := by rfl) (hpl : (backTo pos (starEach es X.env)).any (·.1) = false := by rfl) :
    PE X (.Call (.Name x p) (e :: es) [] pos) (tMake C sp dvs E t) := by
  obtain ⟨hm, f, fd, ds, M, hb, hd, F⟩ := D
  exact pe_make M F (hr.mono hk) hg hm hb hd hx ha hdb he hpl
end
end TW

namespace TW
open PySem PySem.Spec PyProof.Rows L2
/-! ### the text by places -/
def top (i : Nat) : Stmt := PySem.Challenge.pw_turnwires_k04_orders_and_kinds_of_wires.main.body.getD i (.Pass ⟨0, 0, 0, 0⟩)
/-! ### values -/
def nv (n : Nat) : V := .int (n : Int)
theorem same_upd {H : Hp} {p : Addr} {o : HO} (h : H p = none) : Same H (upd H p o) := fun b x e => by rw [upd_ne (ne_of_none e h)]; exact e
/-- an object that was not tracked ahead may change -/
theorem mutS {H H' : Hp} {p : Addr} {o : HO} (e : Same H H') (h : H p = none) : Same H (upd H' p o) := fun a u ha => by rw [upd_ne (ne_of_none ha h)]; exact e a u ha
theorem small64 {n : Nat} (h : n ≤ 100000) : n < sizeLine := Nat.lt_of_le_of_lt h (by decide)
theorem nv_get {l : List Nat} {i : Nat} {x : Nat} (h : l[i]? = some x) : (l.map nv)[i]? = some (nv x) := by rw [List.getElem?_map, h]; rfl
theorem of_nv_get {l : List Nat} {i : Nat} {y : V} (h : (l.map nv)[i]? = some y) : ∃ x, l[i]? = some x ∧ y = nv x := by
  rw [List.getElem?_map] at h
  cases e : l[i]? with
  | none => rw [e] at h; cases h
  | some x => rw [e] at h; exact ⟨x, rfl, (Option.some.inj h).symm⟩
theorem of_int_get {l : List Int} {i : Nat} {y : V} (h : (l.map V.int)[i]? = some y) : ∃ x, l[i]? = some x ∧ y = V.int x := by
  rw [List.getElem?_map] at h
  cases e : l[i]? with
  | none => rw [e] at h; cases h
  | some x => rw [e] at h; exact ⟨x, rfl, (Option.some.inj h).symm⟩
theorem decT {p : Prop} [Decidable p] {A B : Prop} (h : p) (a : A) : if (decide p) = true then A else B := by rw [decide_eq_true h]; exact iteT a
theorem decF {p : Prop} [Decidable p] {A B : Prop} (h : ¬ p) (b : B) : if (decide p) = true then A else B := by rw [decide_eq_false h]; exact iteF b
theorem yesT {σ : L2.St} {H : Hp} {A B : Hp → Prop} (h : A H) : tYes σ H (fun b H1 => if b = true then A H1 else B H1) := by
  show (if true = true then A H else B H)
  exact iteT h
/-- built-in names that the module leaves alone -/
structure Blt (mg : Str → Option Value) : Prop where
  len : mg "len" = none
  range : mg "range" = none
  int : mg "int" = none
  list : mg "list" = none
  enumerate : mg "enumerate" = none
  dict : mg "dict" = none
  zip : mg "zip" = none
  set : mg "set" = none
  sorted : mg "sorted" = none
  all : mg "all" = none
  abs : mg "abs" = none
  isinstance : mg "isinstance" = none
  bool : mg "bool" = none
section
variable {P : Program} {w : World} {K : PySem.W.Frag} {mg : Str → Option Value} {base : Heap}
/-! ### _law_cell: some int -/
abbrev s_l_cell : Stmt := top 19
theorem sc_l_cell : FnScope ["_law_script", "_law_k"] ["_law_script", "_law_k"] (defScope s_l_cell) := ⟨rfl, rfl, rfl, by decide +kernel, rfl, by decide +kernel, by decide +kernel⟩

def spCell (K : PySem.W.Frag) : Sp := fun vs H Q _ => ∃ (a : Addr) (ns : List Int) (k : Nat), vs = [.ref a, nv k] ∧ SqL K H a (ns.map V.int) ∧ ∀ z : Int, Q (.int z) H
theorem ok_cell {f : Addr} {fd : FuncData} (F : Fun K "_law_cell" "_law_cell" s_l_cell f fd) (T : Blt mg) : FnOk P w K mg base CX0 1 f fd ["_law_script", "_law_k"] (spCell K) := by
  refine F.ok sc_l_cell (fun vs H Q E h => ?_) (fun cdv A outer s H vs Q E hr h => ?_)
  · obtain ⟨a, ns, k, rfl, _⟩ := h; rfl
  · obtain ⟨a, ns, k, rfl, hS, q⟩ := h
    refine ⟨_, (pss_cons (ps_if (pt_cmpR op_lt (pv 1) (pe_callB call_len_seq (by rfl) T.len PySem.boot_len (pa_cons (pv 0) pa_nil)) (nomark _)) (pss_one (ps_ret (pe_ix ix_list (pv 0) (pv 1) (fun _ _ => rfl)))) pss_nil)
    (pss_one (ps_ret pe_int))), ?_⟩
    refine ⟨_, rfl, .ref a, rfl, a, _, rfl, .inl hS, _, _, rfl, rfl, _, rfl, ?_⟩
    by_cases c : k < ns.length
    · refine decT (by rw [List.length_map]; omega) ?_
      obtain ⟨z, hz⟩ : ∃ z, ns[k]? = some z := ⟨ns[k], List.getElem?_eq_getElem c⟩
      exact ⟨.ref a, rfl, _, rfl, a, _, _, _, rfl, rfl, hS, atI_nat (by rw [List.getElem?_map, hz]; rfl), q z⟩
    · refine decF (by rw [List.length_map]; omega) ?_
      exact q 0
end
section
variable {P : Program} {w : World} {K : PySem.W.Frag} {mg : Str → Option Value} {base : Heap}
/-! ### _law_row: a draw below each of the sizes -/
abbrev s_l_row : Stmt := top 20
theorem sc_l_row : FnScope ["_law_cell_here", "_law_sizes", "_law_out", "_law_size_here", "_law_seed", "_law_k", "_law_mixed"] ["_law_cell_here", "_law_sizes"] (defScope s_l_row) := ⟨rfl, rfl, rfl, by decide +kernel, rfl, by decide +kernel, by decide +kernel⟩

/-- the draws ds below the sizes ms, as far as they go -/
def Below (ds ms : List Nat) : Prop := ∀ (i d m : Nat), ds[i]? = some d → ms[i]? = some m → d < m
theorem Below.snoc {ds ms : List Nat} {d m : Nat} (h : Below ds ms) (hm : ms[ds.length]? = some m) (hd : d < m) : Below (ds ++ [d]) ms := by
  intro i e n he hn
  rw [List.getElem?_append] at he
  by_cases c : i < ds.length
  · rw [if_pos c] at he; exact h i e n he hn
  · rw [if_neg c] at he
    have hi : i - ds.length = 0 := by
      cases k : i - ds.length with
      | zero => rfl
      | succ j => rw [k] at he; simp at he
    rw [hi] at he
    have e1 : d = e := Option.some.inj he
    have e2 : i = ds.length := by omega
    rw [e2, hm] at hn
    rw [← e1, ← Option.some.inj hn]
    exact hd
def spRow (K : PySem.W.Frag) : Sp := fun vs H Q _ => ∃ (c : Int) (a : Addr) (ms : List Nat), vs = [.int c, .ref a] ∧ SqL K H a (ms.map nv) ∧ (∀ m ∈ ms, 0 < m ∧ m < 2 ^ 24) ∧ ms.length ≤ 1000 ∧
  ∀ (ds : List Nat) (p : Addr) (H' : Hp), Same H H' → H p = none → H' p = some (.lst (ds.map nv)) → ds.length = ms.length → Below ds ms → Q (.ref p) H'
theorem nat_int {z : Int} (h : 0 ≤ z) : V.int z = nv z.toNat := by
  show V.int z = V.int (z.toNat : Int)
  rw [Int.toNat_of_nonneg h]
theorem ok_row {f : Addr} {fd : FuncData} (F : Fun K "_law_row" "_law_row" s_l_row f fd) (T : Blt mg) : FnOk P w K mg base CX0 1 f fd ["_law_cell_here", "_law_sizes"] (spRow K) := by
  refine F.ok sc_l_row (fun vs H Q E h => ?_) (fun cdv A outer s H vs Q E hr h => ?_)
  · obtain ⟨c, a, ms, rfl, _⟩ := h; rfl
  · obtain ⟨c, a, ms, rfl, hS, hm, hlen, q⟩ := h
    refine ⟨_, (pss_cons (ps_set (i := 2) sc_l_row.nd rfl (.inl rfl) (pe_lst pa_nil))
    (pss_cons (ps_if (pt_cmpR op_ge (pv 0) (pe_op op_pow pe_int pe_int) (nomark _)) (pss_cons (ps_for PassesOwn.never rfl (pi_list (pv 1)) (pg_name (i := 3) sc_l_row.nd rfl (.inl rfl)) (pss_cons (ps_expr (pe_bm PySem.F.plainAttrs_list PySem.F.slot_list_append PySem.F.type_list_append mt_append (pv 2) (pa_cons (pe_op op_mod (pe_callTy call_int1 (by rfl) T.int (by decide +kernel) (pa_cons (pv 0) pa_nil)) (pv 3)) pa_nil)))
    (pss_one (ps_set (i := 0) sc_l_row.nd rfl (.inl rfl) (pe_op op_fdiv (pv 0) (pv 3))))))
    (pss_one (ps_ret (pv 2)))) pss_nil)
    (pss_cons (ps_set (i := 4) sc_l_row.nd rfl (.inl rfl) (pe_op op_mod (pe_callTy call_int1 (by rfl) T.int (by decide +kernel) (pa_cons (pv 0) pa_nil)) pe_int))
    (pss_cons (ps_for PassesOwn.never rfl (pi_range1 (by rfl) T.range (pa_cons (pe_callB call_len_seq (by rfl) T.len PySem.boot_len (pa_cons (pv 1) pa_nil)) pa_nil)) (pg_name (i := 5) sc_l_row.nd rfl (.inl rfl)) (pss_cons (ps_set (i := 6) sc_l_row.nd rfl (.inl rfl) (pe_op op_add (pe_op op_mod (pe_callTy call_int1 (by rfl) T.int (by decide +kernel) (pa_cons (pe_op op_pow (pe_op op_add (pe_op op_add (pv 4) (pe_op op_mul pe_int (pv 5))) pe_int) pe_int) pa_nil)) pe_int) (pv 5)))
    (pss_one (ps_expr (pe_bm PySem.F.plainAttrs_list PySem.F.slot_list_append PySem.F.type_list_append mt_append (pv 2) (pa_cons (pe_op op_mod (pe_callTy call_int1 (by rfl) T.int (by decide +kernel) (pa_cons (pe_op op_mod (pe_callTy call_int1 (by rfl) T.int (by decide +kernel) (pa_cons (pe_op op_mul (pv 6) pe_int) pa_nil)) pe_int) pa_nil)) (pe_ix ix_list (pv 1) (pv 5) (fun _ _ => rfl))) pa_nil))))))
    (pss_one (ps_ret (pv 2))))))), ?_⟩
    -- out = []
    refine ⟨Nat.zero_le _, fun o no => ?_⟩
    have s1 : Same H (upd H o (.lst [])) := same_upd no
    refine ⟨_, rfl, _, _, rfl, rfl, ⟨by decide, by decide, by decide⟩, _, _, rfl, rfl, _, rfl, ?_⟩
    refine ite2 (fun cc => ?_) (fun cc => ?_)
    · -- the great cell
      refine ⟨_, rfl, a, rfl, ⟨_, s1.seq hS⟩, for_list (K := K) (a := a) (xs := ms.map nv) (fun i σ H1 => ∃ (z : Int) (v : Option V) (ds : List Nat), σ = [some (.int z), some (.ref a), some (.ref o), v, none, none, none] ∧ Same H H1 ∧ H1 o = some (.lst (ds.map nv)) ∧ ds.length = i ∧ Below ds ms)
        ⟨c, none, [], rfl, s1, upd_same, rfl, fun i d m h => by simp at h⟩ (fun i σ H1 _ ⟨_, _, _, _, s2, _⟩ => s2.seq hS) ?_ ?_⟩
      · rintro i y σ H1 hi ⟨z, v, ds, rfl, s2, ho, hl, hb⟩
        obtain ⟨m, hmi, rfl⟩ := of_nv_get hi
        obtain ⟨m0, m1⟩ := hm m (List.mem_of_getElem? hmi)
        have h0 : 0 ≤ z % (m : Int) := Int.emod_nonneg _ (by omega)
        have h1 : z % (m : Int) < m := Int.emod_lt_of_pos _ (by omega)
        have hli : i < ms.length := (List.getElem?_eq_some_iff.mp hmi).1
        refine ⟨_, rfl, .inl ⟨rfl, _, .inl (.inl ho)⟩, _, rfl, .inl ⟨z, rfl, _, rfl, _, _, rfl, rfl, (by show (0 : Int) < m; omega), o, _, _, rfl, rfl, ho, small64 (by rw [List.length_map]; omega), ?_⟩⟩
        refine ⟨_, rfl, _, rfl, _, _, rfl, rfl, ⟨by omega, by omega⟩, ?_⟩
        refine ⟨z / m, _, ds ++ [(z % (m : Int)).toNat], rfl, mutS s2 no, ?_, by rw [List.length_append, hl]; rfl, hb.snoc (by rw [hl]; exact hmi) (by omega)⟩
        dsimp only
        rw [upd_same, List.map_append, nat_int h0]
        rfl
      · rintro σ H1 ⟨z, v, ds, rfl, s2, ho, hl, hb⟩
        exact ⟨_, rfl, q ds o H1 s2 no ho (by rw [hl, List.length_map]) hb⟩
    · -- seed
      refine ⟨_, rfl, .inl ⟨c, rfl, _, _, rfl, rfl, (by show (0 : Int) < 2147483647; decide), ?_⟩⟩
      dsimp only
      have g0 : 0 ≤ c % (2147483647 : Int) := Int.emod_nonneg _ (by decide)
      have g1 : c % (2147483647 : Int) < 2147483647 := Int.emod_lt_of_pos _ (by decide)
      generalize c % (2147483647 : Int) = sd at g0 g1
      refine ⟨.ref a, rfl, a, _, rfl, .inl (s1.seq hS), ((ms.map nv).length : Int), rfl, by omega, by rw [List.length_map]; omega, ?_⟩
      rw [Int.toNat_natCast, List.length_map]
      refine for_range (lo := 0) (n := ms.length) (fun i σ H1 => ∃ (v1 v2 : Option V) (ds : List Nat), σ = [some (.int c), some (.ref a), some (.ref o), none, some (.int sd), v1, v2] ∧ Same H H1 ∧ H1 o = some (.lst (ds.map nv)) ∧ ds.length = i ∧ Below ds ms)
        ⟨none, none, [], rfl, s1, upd_same, rfl, fun i d m h => by simp at h⟩ ?_ ?_
      · rintro i σ H1 hi ⟨v1, v2, ds, rfl, s2, ho, hl, hb⟩
        obtain ⟨m, hmi⟩ : ∃ m, ms[i]? = some m := ⟨ms[i], List.getElem?_eq_getElem hi⟩
        obtain ⟨m0, m1⟩ := hm m (List.mem_of_getElem? hmi)
        rw [Int.zero_add]
        refine ⟨_, rfl, _, rfl, _, _, rfl, rfl, .inl ⟨by decide, by decide⟩, _, _, rfl, rfl, _, _, rfl, rfl, _, _, rfl, rfl, ⟨by decide, by decide, by omega⟩, .inl ⟨_, rfl, _, _, rfl, rfl, (by show (0 : Int) < 2147483647; decide), _, rfl, _, _, rfl, rfl, ?_⟩⟩
        dsimp only
        generalize hX : (sd + 7919 * (i : Int) + 104729) ^ (5 : Int).toNat = x
        have x0 : 0 ≤ x % (2147483647 : Int) := Int.emod_nonneg _ (by decide)
        have x1 : x % (2147483647 : Int) < 2147483647 := Int.emod_lt_of_pos _ (by decide)
        generalize x % (2147483647 : Int) = y at x0 x1
        refine ⟨_, rfl, .inl ⟨rfl, _, .inl (.inl ho)⟩, _, rfl, _, _, rfl, rfl, .inl ⟨by omega, by omega⟩, .inl ⟨_, rfl, _, _, rfl, rfl, (by show (0 : Int) < 2147483629; decide), .inl ⟨_, rfl, .ref a, rfl, _, rfl, a, _, _, _, rfl, rfl, s2.seq hS, atI_nat (nv_get hmi), ?_⟩⟩⟩
        have h0 : 0 ≤ (y + (i : Int)) * 40692 % 2147483629 % (m : Int) := Int.emod_nonneg _ (by omega)
        have h1 : (y + (i : Int)) * 40692 % 2147483629 % (m : Int) < m := Int.emod_lt_of_pos _ (by omega)
        refine ⟨_, _, rfl, rfl, (by omega), o, _, _, rfl, rfl, ho, small64 (by rw [List.length_map]; omega), ?_⟩
        refine ⟨_, _, ds ++ [((y + (i : Int)) * 40692 % 2147483629 % (m : Int)).toNat], rfl, mutS s2 no, ?_, by rw [List.length_append, hl]; rfl, hb.snoc (by rw [hl]; exact hmi) (by omega)⟩
        dsimp only
        rw [upd_same, List.map_append, nat_int h0]
        rfl
      · rintro σ H1 ⟨v1, v2, ds, rfl, s2, ho, hl, hb⟩
        exact ⟨_, rfl, q ds o H1 s2 no ho hl hb⟩
end
section
variable {P : Program} {w : World} {K : PySem.W.Frag} {mg : Str → Option Value} {base : Heap}
/-! ### _law_drawn: a list of the places below n, each once -/
abbrev s_l_drawn : Stmt := top 21
theorem sc_l_drawn : FnScope ["_law_cell_here", "_law_n", "_law_left", "_law_draw", "_law_k"] ["_law_cell_here", "_law_n"] (defScope s_l_drawn) := ⟨rfl, rfl, rfl, by decide +kernel, rfl, by decide +kernel, by decide +kernel⟩

def spDrawn : Sp := fun vs H Q _ => ∃ (c : Int) (n : Nat), vs = [.int c, nv n] ∧ n ≤ 100 ∧
  ∀ (im : List Nat) (p : Addr) (H' : Hp), Same H H' → H p = none → H' p = some (.lst (im.map nv)) → IsPerm im → im.length = n → Q (.ref p) H'
theorem rgV_nat (n : Nat) : rgV 0 (n : Int) = (List.range n).map nv := by
  unfold rgV
  rw [show ((n : Int) - 0).toNat = n by omega]
  refine List.map_congr_left fun i _ => ?_
  show V.int (0 + (i : Int)) = V.int i
  rw [Int.zero_add]
theorem ok_drawn {f : Addr} {fd : FuncData} (F : Fun K "_law_drawn" "_law_drawn" s_l_drawn f fd) (T : Blt mg) (D_l_row : DefOk P w K mg base CX0 1 "_law_row" ["_law_cell_here", "_law_sizes"] [] (spRow K)) :
    FnOk P w K mg base CX0 2 f fd ["_law_cell_here", "_law_n"] spDrawn := by
  refine F.ok sc_l_drawn (fun vs H Q E h => ?_) (fun cdv A outer s H vs Q E hr h => ?_)
  · obtain ⟨c, n, rfl, _⟩ := h; rfl
  · obtain ⟨c, n, rfl, hn, q⟩ := h
    refine ⟨_, (pss_cons (ps_set (i := 2) sc_l_drawn.nd rfl (.inr rfl) (pe_listRg rfl (by rfl) T.list (prg_1 (by rfl) T.range (pv 1))))
    (pss_one (ps_ret (pe_lc (own := [("_law_draw", 3)]) (tt := tYes) (te := tBM K "list" rPopAt (tVar 2) (tCons (tVar 3) tNil)) rfl sc_l_drawn.nd (pi_list (pe_d D_l_row hr pass0 (pa_cons (pv 0) (pa_cons (pe_lc (own := [("_law_k", 4)]) (tt := tYes) rfl sc_l_drawn.nd (pi_range1 (by rfl) T.range (pa_cons (pv 1) pa_nil)) (blkOk_by (N := ["_law_cell_here", "_law_n", "_law_left", "_law_draw", "_law_k"]) (sc := defScope s_l_drawn) (by decide +kernel)) (fun _ _ _ _ _ => (pg_name (i := 4) sc_l_drawn.nd rfl (.inl rfl))) (fun _ _ _ _ _ => pts_nil) (fun _ _ _ _ _ => by exact (pe_op op_sub (pv 1) (pv 4)))) pa_nil)))) (blkOk_by (N := ["_law_cell_here", "_law_n", "_law_left", "_law_draw", "_law_k"]) (sc := defScope s_l_drawn) (by decide +kernel)) (fun _ _ _ _ _ => (pg_name (i := 3) sc_l_drawn.nd rfl (.inl rfl))) (fun _ _ _ _ _ => pts_nil) (fun _ _ _ _ _ => by exact (pe_bm PySem.F.plainAttrs_list PySem.F.slot_list_pop PySem.F.type_list_pop mt_popAt (pv 2) (pa_cons (pv 3) pa_nil))))))), ?_⟩
    -- _law_left = list(range(_law_n))
    refine ⟨_, rfl, _, rfl, ⟨by omega, by omega, by omega, by omega, by omega⟩, fun L nL => ?_⟩
    rw [rgV_nat]
    have s1 : Same H (upd H L (.lst ((List.range n).map nv))) := same_upd nL
    -- the sizes
    refine ⟨_, rfl, _, rfl, _, rfl, by omega, by omega, fun D nD => ?_⟩
    rw [Int.toNat_natCast]
    refine lc_range (lo := 0) (n := n) (fun i H1 => Same (upd H L (.lst ((List.range n).map nv))) H1 ∧ H1 D = some (.lst ((((List.range n).map fun k => n - k).take i).map nv))) ⟨same_upd nD, upd_same⟩ ?_ ?_
    · rintro i H1 hi ⟨s2, hD⟩
      rw [Int.zero_add]
      refine ⟨rfl, ?_⟩
      refine yesT ?_
      refine ⟨_, rfl, _, rfl, _, _, rfl, rfl, _, hD, small64 (by rw [List.length_map, List.length_take]; omega), mutS s2 nD, ?_⟩
      have e : ((List.range n).map fun k => n - k)[i]? = some (n - i) := by rw [List.getElem?_map, List.getElem?_range hi]; rfl
      rw [upd_same, List.take_add_one, e, List.map_append]
      dsimp only
      rw [show (n : Int) - (i : Int) = ((n - i : Nat) : Int) by omega]
      rfl
    · rintro H1 ⟨s2, hD⟩
      rw [List.take_of_length_le (by rw [List.length_map, List.length_range]; exact Nat.le_refl _)] at hD
      have nLD : L ≠ D := ne_of_none (H := upd H L (.lst ((List.range n).map nv))) upd_same nD
      refine ⟨c, D, (List.range n).map fun k => n - k, rfl, SqL.of hD, fun m hm => ?_, by rw [List.length_map, List.length_range]; omega, fun ds p H2 s3 np hp hl hb => ?_⟩
      · obtain ⟨k, hk, rfl⟩ := List.mem_map.mp hm
        have := List.mem_range.mp hk
        omega
      rw [List.length_map, List.length_range] at hl
      have s4 : Same (upd H L (.lst ((List.range n).map nv))) H2 := s2.trans s3
      have hL2 : H2 L = some (.lst ((List.range n).map nv)) := s4 L _ upd_same
      have nLp : L ≠ p := ne_of_none (s2 L _ upd_same) np
      -- the draws
      refine ⟨p, rfl, ⟨_, SqL.of hp⟩, fun O nO => ?_⟩
      have nOL : L ≠ O := ne_of_none hL2 nO
      have nOp : p ≠ O := ne_of_none hp nO
      refine lc_list (K := K) (a := p) (xs := ds.map nv) (fun i H3 => ∃ im rest : List Nat, Same H H3 ∧ H3 p = some (.lst (ds.map nv)) ∧ H3 L = some (.lst (rest.map nv)) ∧ H3 O = some (.lst (im.map nv)) ∧ im.length = i ∧ rest.length + i = n ∧ (im ++ rest).Perm (List.range n))
        ⟨[], List.range n, (s1.trans s4).trans (same_upd nO), by rw [upd_ne nOp]; exact hp, by rw [upd_ne nOL]; exact hL2, upd_same, rfl, by rw [List.length_range]; rfl, List.Perm.refl _⟩ (fun i H3 _ ⟨_, _, _, h, _⟩ => SqL.of h) ?_ ?_
      · rintro i y H3 hi ⟨im, rest, s5, h1, h2, h3, l1, l2, pm⟩
        obtain ⟨d, hd, rfl⟩ := of_nv_get hi
        have hin : i < n := by
          have := (List.getElem?_eq_some_iff.mp hd).1
          omega
        have hdn : d < n - i := hb i d (n - i) hd (by rw [List.getElem?_map, List.getElem?_range hin]; rfl)
        obtain ⟨x, hx⟩ : ∃ x, rest[d]? = some x := ⟨rest[d]'(by omega), List.getElem?_eq_getElem (by omega)⟩
        have hel := erase_len hx
        refine ⟨rfl, ?_⟩
        refine yesT ?_
        refine ⟨.ref L, rfl, .inl ⟨rfl, _, .inl (.inl h2)⟩, _, rfl, L, _, _, d, _, rfl, rfl, h2, by omega, by omega, ?_, nv_get hx, im.map nv, ?_, small64 (by rw [List.length_map, l1]; omega), im ++ [x], rest.eraseIdx d, ?_⟩
        · rw [seqIndex_of (by omega) (by rw [List.length_map]; omega), Int.toNat_natCast]
        · rw [upd_ne nOL.symm]; exact h3
        refine ⟨?_, ?_, ?_, ?_, by rw [List.length_append, l1]; rfl, by omega, draw_step pm hx⟩
        · exact mutS (mutS s5 nL) ((s1.trans s4).free nO)
        · rw [upd_ne nOp, upd_ne nLp.symm]; exact h1
        · rw [upd_ne nOL, upd_same, erase_map]
        · rw [upd_same, List.map_append]; rfl
      · rintro H3 ⟨im, rest, s5, h1, h2, h3, l1, l2, pm⟩
        rw [List.length_map, hl] at l1 l2
        have er : rest = [] := List.length_eq_zero_iff.mp (by omega)
        rw [er, List.append_nil] at pm
        obtain ⟨ip, il⟩ := isPerm_of pm
        exact q im O H3 s5 ((s1.trans s4).free nO) h3 ip il
/-! ### _law_size -/
abbrev s_l_size : Stmt := top 26
theorem sc_l_size : FnScope ["_law_draw"] ["_law_draw"] (defScope s_l_size) := ⟨rfl, rfl, rfl, by decide +kernel, rfl, by decide +kernel, by decide +kernel⟩

def spSize : Sp := fun vs H Q _ => ∃ d : Nat, vs = [nv d] ∧ ∀ n : Nat, 1 ≤ n → n ≤ 60 → Q (nv n) H
theorem ok_size {f : Addr} {fd : FuncData} (F : Fun K "_law_size" "_law_size" s_l_size f fd) : FnOk P w K mg base CX0 1 f fd ["_law_draw"] spSize := by
  refine F.ok sc_l_size (fun vs H Q E h => ?_) (fun cdv A outer s H vs Q E hr h => ?_)
  · obtain ⟨d, rfl, _⟩ := h; rfl
  · obtain ⟨d, rfl, q⟩ := h
    refine ⟨_, (pss_cons (ps_if (pt_cmpR op_eq (pe_op op_mod (pv 0) pe_int) pe_int (nomark _)) (pss_one (ps_ret (pe_op op_sub pe_int (pe_op op_mod (pe_op op_fdiv (pv 0) pe_int) pe_int)))) pss_nil)
    (pss_one (ps_ret (pe_op op_add pe_int (pe_op op_mod (pe_op op_fdiv (pv 0) pe_int) pe_int))))), ?_⟩
    refine ⟨_, rfl, _, _, rfl, rfl, (by show (0 : Int) < 8; decide), rfl, _, rfl, ite2 (fun _ => ?_) (fun _ => ?_)⟩
    · refine ⟨_, rfl, _, _, rfl, rfl, ⟨by decide, by decide⟩, _, _, rfl, rfl, (by show (0 : Int) < 9; decide), _, _, rfl, rfl, ?_⟩
      have e : V.int (60 - (d : Int) / 8 % 9) = nv (60 - d / 8 % 9) := by
        show V.int _ = V.int _
        congr 1
        omega
      show Q (V.int (60 - (d : Int) / 8 % 9)) H
      rw [e]
      exact q _ (by omega) (by omega)
    · refine ⟨_, rfl, _, _, rfl, rfl, ⟨by decide, by decide⟩, _, _, rfl, rfl, (by show (0 : Int) < 12; decide), _, _, rfl, rfl, ?_⟩
      exact q (1 + d / 8 % 12) (by omega) (by omega)
end
/-! ### lists of lists of places -/
structure Rg (H : Hp) (as : List Addr) (rs : List (List Nat)) : Prop where
  len : as.length = rs.length
  at_ : ∀ (i : Nat) (a : Addr) (r : List Nat), as[i]? = some a → rs[i]? = some r → H a = some (.lst (r.map nv))
theorem Rg.nil {H : Hp} : Rg H [] [] := ⟨rfl, fun i a r h _ => by simp at h⟩
theorem Rg.mono {H H' : Hp} {as : List Addr} {rs : List (List Nat)} (g : Rg H as rs) (s : Same H H') : Rg H' as rs := ⟨g.len, fun i a r h1 h2 => s _ _ (g.at_ i a r h1 h2)⟩
theorem Rg.know {H : Hp} {as : List Addr} {rs : List (List Nat)} (g : Rg H as rs) {a : Addr} (h : a ∈ as) : ∃ r : List Nat, H a = some (.lst (r.map nv)) := by
  obtain ⟨i, hi, e⟩ := List.mem_iff_getElem.mp h
  have hr : i < rs.length := by rw [← g.len]; exact hi
  exact ⟨rs[i], g.at_ i a _ (by rw [← e]; exact List.getElem?_eq_getElem hi) (List.getElem?_eq_getElem hr)⟩
theorem Rg.upd {H : Hp} {as : List Addr} {rs : List (List Nat)} (g : Rg H as rs) {p : Addr} {o : HO} (h : p ∉ as) : Rg (upd H p o) as rs := ⟨g.len, fun i a r h1 h2 => by
  rw [upd_ne (fun e => h (by rw [← e]; exact List.mem_of_getElem? h1))]
  exact g.at_ i a r h1 h2⟩
theorem Rg.snoc {H : Hp} {as : List Addr} {rs : List (List Nat)} (g : Rg H as rs) {a : Addr} {r : List Nat} (h : H a = some (.lst (r.map nv))) : Rg H (as ++ [a]) (rs ++ [r]) := by
  refine ⟨by rw [List.length_append, List.length_append, g.len]; rfl, fun i b q h1 h2 => ?_⟩
  rw [List.getElem?_append] at h1 h2
  by_cases c : i < as.length
  · rw [if_pos c] at h1
    rw [if_pos (by rw [← g.len]; exact c)] at h2
    exact g.at_ i b q h1 h2
  · rw [if_neg c] at h1
    rw [if_neg (by rw [← g.len]; exact c)] at h2
    cases k : i - as.length with
    | zero =>
      rw [k] at h1
      rw [← g.len, k] at h2
      have e1 : a = b := Option.some.inj h1
      have e2 : r = q := Option.some.inj h2
      rw [← e1, ← e2]
      exact h
    | succ j => rw [k] at h1; simp at h1
theorem all_flat (l : List Nat) : (l.map nv).all flatV = true := by
  rw [List.all_eq_true]
  intro x hx
  obtain ⟨y, _, rfl⟩ := List.mem_map.mp hx
  rfl
theorem inV_nv (p : Nat) (l : List Nat) : inV (nv p) (l.map nv) = decide (p ∈ l) := by
  unfold inV
  induction l with
  | nil => rfl
  | cons a l ih =>
    rw [List.map_cons, List.any_cons, ih]
    show ((a : Int) == (p : Int) || decide (p ∈ l)) = decide (p ∈ a :: l)
    by_cases c : p = a
    · subst c; simp
    · have : ((a : Int) == (p : Int)) = false := by
        rw [beq_eq_false_iff_ne]
        omega
      rw [this, Bool.false_or]
      simp [c]
section
variable {P : Program} {w : World} {K : PySem.W.Frag} {mg : Str → Option Value} {base : Heap}
/-! ### _law_rings -/
abbrev s_l_rings : Stmt := top 23
theorem sc_l_rings : FnScope ["_law_images", "_law_out", "_law_seen", "_law_place", "_law_ring"] ["_law_images"] (defScope s_l_rings) := ⟨rfl, rfl, rfl, by decide +kernel, rfl, by decide +kernel, by decide +kernel⟩

def spRings (K : PySem.W.Frag) : Sp := fun vs H Q _ => ∃ (a : Addr) (im : List Nat), vs = [.ref a] ∧ SqL K H a (im.map nv) ∧ IsPerm im ∧ im.length ≤ 100 ∧
  ∀ (o : Addr) (as : List Addr) (H' : Hp), Same H H' → H o = none → (∀ a ∈ as, H a = none) → o ∉ as → as.Nodup → H' o = some (.lst (as.map V.ref)) → Rg H' as (rings (ap im) im.length) → Q (.ref o) H'
theorem ok_l_rings {f : Addr} {fd : FuncData} (F : Fun K "_law_rings" "_law_rings" s_l_rings f fd) (T : Blt mg) : FnOk P w K mg base CX0 1 f fd ["_law_images"] (spRings K) := by
  refine F.ok sc_l_rings (fun vs H Q E h => ?_) (fun cdv A outer s H vs Q E hr h => ?_)
  · obtain ⟨a, im, rfl, _⟩ := h; rfl
  · obtain ⟨a, im, rfl, hS, hI, hn, q⟩ := h
    have P := hI.perm
    refine ⟨_, (pss_cons (ps_set (i := 1) sc_l_rings.nd rfl (.inl rfl) (pe_lst pa_nil))
    (pss_cons (ps_set (i := 2) sc_l_rings.nd rfl (.inl rfl) (pe_lst pa_nil))
    (pss_cons (ps_for PassesOwn.never rfl (pi_range1 (by rfl) T.range (pa_cons (pe_callB call_len_seq (by rfl) T.len PySem.boot_len (pa_cons (pv 0) pa_nil)) pa_nil)) (pg_name (i := 3) sc_l_rings.nd rfl (.inl rfl)) (pss_one (ps_if (pt_cmpR op_notIn_seq (pv 3) (pv 2) rfl) (pss_cons (ps_set (i := 4) sc_l_rings.nd rfl (.inl rfl) (pe_lst (pa_cons (pv 3) pa_nil)))
    (pss_cons (ps_while PassesOwn.never (pt_cmpR op_ne (pe_ix ix_list (pv 0) (pe_ix ix_list (pv 4) (pe_un un_neg pe_int) (fun _ _ => rfl)) (fun _ _ => rfl)) (pv 3) (nomark _)) (pss_one (ps_expr (pe_bm PySem.F.plainAttrs_list PySem.F.slot_list_append PySem.F.type_list_append mt_append (pv 4) (pa_cons (pe_ix ix_list (pv 0) (pe_ix ix_list (pv 4) (pe_un un_neg pe_int) (fun _ _ => rfl)) (fun _ _ => rfl)) pa_nil)))))
    (pss_cons (ps_set (i := 2) sc_l_rings.nd rfl (.inl rfl) (pe_op op_cat (pv 2) (pv 4)))
    (pss_one (ps_if (pt_cmpR op_gt (pe_callB call_len_seq (by rfl) T.len PySem.boot_len (pa_cons (pv 4) pa_nil)) pe_int (nomark _)) (pss_one (ps_expr (pe_bm PySem.F.plainAttrs_list PySem.F.slot_list_append PySem.F.type_list_append mt_append (pv 1) (pa_cons (pv 4) pa_nil)))) pss_nil))))) pss_nil)))
    (pss_one (ps_ret (pv 1)))))), ?_⟩
    -- out = []; seen = []
    refine ⟨Nat.zero_le _, fun o no => ⟨Nat.zero_le _, fun e ne => ?_⟩⟩
    have s1 : Same H (upd H o (.lst [])) := same_upd no
    have s2 : Same H (upd (upd H o (.lst [])) e (.lst [])) := s1.trans (same_upd ne)
    have noe : o ≠ e := ne_of_none (H := upd H o (.lst [])) upd_same ne
    refine ⟨_, rfl, a, _, rfl, .inl (s2.seq hS), _, rfl, by omega, by rw [List.length_map]; omega, ?_⟩
    rw [Int.toNat_natCast, List.length_map]
    refine for_range (lo := 0) (n := im.length) (fun i σ H1 => ∃ (v3 v4 : Option V) (sn : List Nat) (x : Addr) (as : List Addr), σ = [some (.ref a), some (.ref o), some (.ref x), v3, v4] ∧ Same H H1 ∧
        H1 x = some (.lst (sn.map nv)) ∧ (∀ y, y ∈ sn ↔ ∃ q, q < i ∧ y ∈ ring (ap im) im.length q) ∧ sn.length ≤ i * 100 ∧ x ≠ o ∧ H x = none ∧
        H1 o = some (.lst (as.map V.ref)) ∧ Rg H1 as (ringsTo (ap im) im.length i) ∧ o ∉ as ∧ as.Nodup ∧ (∀ a ∈ as, H a = none))
      ⟨none, none, [], e, [], rfl, s2, upd_same, fun y => ⟨fun h => by simp at h, fun ⟨q, h, _⟩ => absurd h (Nat.not_lt_zero _)⟩, Nat.zero_le _, noe.symm, s1.free ne, by rw [upd_ne noe, upd_same]; rfl, Rg.nil, by simp, by simp, by simp⟩ ?_ ?_
    · rintro i σ H1 hi ⟨v3, v4, sn, x, as, rfl, s3, hx, hsn, hsl, nxo, nx, ho, hg, hoa, hnd, hfr⟩
      rw [Int.zero_add]
      -- place not in seen
      refine ⟨_, rfl, _, rfl, x, _, rfl, .inl (SqL.of hx), rfl, all_flat sn, _, rfl, ?_⟩
      have ei : inV (V.int (i : Int)) (sn.map nv) = decide (i ∈ sn) := inV_nv i sn
      rw [ei]
      by_cases c : i ∈ sn
      · rw [decide_eq_true c]
        refine iteF ?_
        have l0 := (seen_lead P hi hsn).mp c
        exact ⟨_, v4, sn, x, as, rfl, s3, hx, seen_skip P hi hsn c, by omega, nxo, nx, ho, by rw [ringsTo_skip l0]; exact hg, hoa, hnd, hfr⟩
      · rw [decide_eq_false c]
        refine iteT ?_
        have l1 : lead (ap im) im.length i = true := by
          cases z : lead (ap im) im.length i with
          | true => rfl
          | false => exact absurd ((seen_lead P hi hsn).mpr z) c
        obtain ⟨p0, pe, pl, _⟩ := per_spec P hi
        -- ring = [place]
        refine ⟨_, rfl, by show 1 ≤ sizeLine; decide, fun r nr => ?_⟩
        have nro : o ≠ r := ne_of_none ho nr
        have nrx : x ≠ r := ne_of_none hx nr
        have s4 : ∀ z, Same H (upd H1 r z) := fun z => mutS s3 (s3.free nr)
        -- while
        refine ⟨fun m σ H2 => ∃ j, j < per (ap im) im.length i ∧ m = per (ap im) im.length i - (j + 1) ∧ σ = [some (.ref a), some (.ref o), some (.ref x), some (nv i), some (.ref r)] ∧ H2 = upd H1 r (.lst ((pref (ap im) i (j + 1)).map nv)), ⟨_, 0, p0, rfl, rfl, rfl⟩, ?_⟩
        rintro m σ H2 ⟨j, hj, rfl, rfl, rfl⟩
        have hA := (s4 (.lst ((pref (ap im) i (j + 1)).map nv))).seq hS
        have eP : (pref (ap im) i (j + 1)).map nv = (pref (ap im) i j).map nv ++ [nv (it (ap im) j i)] := by rw [pref_succ, List.map_append]; rfl
        have hlt : it (ap im) j i < im.length := P.it_lt j hi
        have hR : SqL K (upd H1 r (.lst ((pref (ap im) i (j + 1)).map nv))) r ((pref (ap im) i (j + 1)).map nv) := SqL.of upd_same
        have gl : atI ((pref (ap im) i (j + 1)).map nv) (-1) = some (nv (it (ap im) j i)) := by rw [eP]; exact atI_last _ _
        have gi : atI (im.map nv) ((it (ap im) j i : Nat) : Int) = some (nv (it (ap im) (j + 1) i)) := atI_nat (nv_get (ap_get hlt))
        refine ⟨_, rfl, _, rfl, 1, rfl, r, _, _, _, rfl, rfl, hR, gl, a, _, _, _, rfl, rfl, hA, gi, _, rfl, rfl, _, rfl, ?_⟩
        by_cases cb : it (ap im) (j + 1) i = i
        · -- the ring is whole
          have ej := (back_iff P hi hj).mp cb
          rw [cb, decide_eq_true rfl]
          refine iteF ?_
          have eR : pref (ap im) i (j + 1) = ring (ap im) im.length i := by rw [ej]; rfl
          rw [eR]
          -- seen = seen + ring
          refine ⟨_, rfl, _, rfl, x, r, _, _, rfl, rfl, by rw [upd_ne nrx]; exact hx, upd_same, ?_, fun x' nx' => ?_⟩
          · rw [List.length_map, List.length_map, ring_len]
            exact Nat.le_of_lt (small64 (by have : i * 100 ≤ 100 * 100 := Nat.mul_le_mul_right _ (by omega); omega))
          rw [← List.map_append]
          have nro' : o ≠ x' := ne_of_none (H := upd H1 r _) (by rw [upd_ne nro]; exact ho) nx'
          have nrr' : r ≠ x' := ne_of_none (H := upd H1 r _) upd_same nx'
          have s5 : Same H (upd (upd H1 r (.lst ((ring (ap im) im.length i).map nv))) x' (.lst ((sn ++ ring (ap im) im.length i).map nv))) := (s4 _).trans (same_upd nx')
          have hro : r ∉ as := fun hm => by
            obtain ⟨z, hz⟩ := hg.know hm
            rw [hz] at nr
            cases nr
          have hxas : x' ∉ as := fun hm => by
            obtain ⟨z, hz⟩ := hg.know hm
            rw [upd_ne (fun e => hro (by rw [← e]; exact hm)), hz] at nx'
            cases nx'
          have hlen : (sn ++ ring (ap im) im.length i).length ≤ (i + 1) * 100 := by rw [List.length_append, ring_len]; omega
          -- if len(ring) > 1
          refine ⟨_, rfl, r, _, rfl, .inl (SqL.of (by rw [upd_ne nrr']; exact upd_same)), _, _, rfl, rfl, _, rfl, ?_⟩
          by_cases ci : ap im i = i
          · refine decF (by rw [List.length_map, ring_len, (per_one P hi).mpr ci]; omega) ?_
            refine ⟨_, _, _, x', as, rfl, s5, upd_same, seen_more hsn, hlen, nro'.symm, (s4 _).free nx', by rw [upd_ne nro', upd_ne nro]; exact ho, ?_, hoa, hnd, hfr⟩
            rw [ringsTo_stay ci]
            exact (hg.upd hro).upd hxas
          · refine decT (by
              rw [List.length_map, ring_len]
              have : per (ap im) im.length i ≠ 1 := fun z => ci ((per_one P hi).mp z)
              omega) ?_
            have ho5 : (upd (upd H1 r (.lst ((ring (ap im) im.length i).map nv))) x' (.lst ((sn ++ ring (ap im) im.length i).map nv))) o = some (.lst (as.map V.ref)) := by rw [upd_ne nro', upd_ne nro]; exact ho
            refine ⟨_, rfl, .inl ⟨rfl, _, SqL.of ho5⟩, _, rfl, o, _, _, rfl, rfl, ho5, small64 (by rw [List.length_map, hg.len]; have := ringsTo_len (ap im) im.length i; omega), ?_⟩
            refine ⟨_, _, _, x', as ++ [r], rfl, mutS s5 no, by rw [upd_ne nro'.symm]; exact upd_same, seen_more hsn, hlen, nro'.symm, (s4 _).free nx', by rw [upd_same, List.map_append]; rfl, ?_, ?_, ?_, ?_⟩
            · rw [ringsTo_more l1 ci]
              refine Rg.snoc (((hg.upd hro).upd hxas).upd hoa) ?_
              rw [upd_ne nro.symm, upd_ne nrr']
              exact upd_same
            · rw [List.mem_append, not_or]
              exact ⟨hoa, fun h => nro (List.mem_singleton.mp h)⟩
            · exact nd_snoc hnd hro
            · intro b hb
              rcases List.mem_append.mp hb with h | h
              · exact hfr b h
              · rw [List.mem_singleton.mp h]; exact s3.free nr
        · have ej : j + 1 ≠ per (ap im) im.length i := fun z => cb ((back_iff P hi hj).mpr z)
          rw [decide_eq_false (fun z => cb (by have := V.int.inj z; omega))]
          refine iteT ⟨fun σ' H' => σ' = [some (.ref a), some (.ref o), some (.ref x), some (nv i), some (.ref r)] ∧ H' = upd H1 r (.lst ((pref (ap im) i (j + 1 + 1)).map nv)), fun σ' H' h => ⟨_, ?_, j + 1, by omega, rfl, h.1, h.2⟩, ?_⟩
          · omega
          refine ⟨_, rfl, .inl ⟨rfl, _, hR⟩, _, rfl, _, rfl, 1, rfl, r, _, _, _, rfl, rfl, hR, gl, a, _, _, _, rfl, rfl, hA, gi, r, _, _, rfl, rfl, upd_same, small64 (by rw [List.length_map, pref_len]; omega), rfl, ?_⟩
          rw [upd_upd, pref_succ (ap im) i (j + 1), List.map_append]
          rfl
    · rintro σ H1 ⟨v3, v4, sn, x, as, rfl, s3, hx, hsn, hsl, nxo, nx, ho, hg, hoa, hnd, hfr⟩
      exact ⟨_, rfl, q o as H1 s3 no hfr hoa hnd ho hg⟩
end
/-! ### dicts from places to places -/
def natKV (g : List (Nat × Nat)) : List (Key × V) := g.map fun p => (Sum.inl (p.1 : Int), nv p.2)
theorem natKV_append (a b : List (Nat × Nat)) : natKV (a ++ b) = natKV a ++ natKV b := List.map_append
theorem natKV_none : ∀ {g : List (Nat × Nat)} {x : Nat}, x ∉ g.map Prod.fst → valV (natKV g) (Sum.inl (x : Int)) = none
  | [], x, _ => rfl
  | (a, b) :: g, x, h => by
    have h1 : ¬ x = a := fun e => h (by rw [e]; exact List.mem_cons_self)
    have h2 : x ∉ g.map Prod.fst := fun e => h (List.mem_cons_of_mem _ e)
    show valV ((Sum.inl (a : Int), nv b) :: natKV g) _ = none
    rw [valV_neg (fun e => h1 (by have := Sum.inl.inj e; omega))]
    exact natKV_none h2
theorem natKV_some : ∀ {g : List (Nat × Nat)} {x y : Nat}, (g.map Prod.fst).Nodup → (x, y) ∈ g → valV (natKV g) (Sum.inl (x : Int)) = some (nv y)
  | [], x, y, _, h => by cases h
  | (a, b) :: g, x, y, hn, h => by
    have hn' : (a :: g.map Prod.fst).Nodup := hn
    obtain ⟨n1, n2⟩ := List.nodup_cons.mp hn'
    show valV ((Sum.inl (a : Int), nv b) :: natKV g) _ = _
    rcases List.mem_cons.mp h with e | e
    · have e1 : x = a := congrArg Prod.fst e
      have e2 : y = b := congrArg Prod.snd e
      rw [e1, e2, valV_pos rfl]
    · have hxa : ¬ a = x := fun q => n1 (by rw [q]; exact List.mem_map.mpr ⟨(x, y), e, rfl⟩)
      rw [valV_neg (fun q => hxa (by have := Sum.inl.inj q; omega))]
      exact natKV_some n2 e
theorem natKV_len (g : List (Nat × Nat)) : (natKV g).length = g.length := List.length_map _
/-- what a dict of a map's pairs tells -/
theorem graph_get {f : Nat → Nat} {l : List Nat} (hn : l.Nodup) (x : Nat) : valV (natKV (graph f l)) (Sum.inl (x : Int)) = if x ∈ l then some (nv (f x)) else none := by
  by_cases c : x ∈ l
  · rw [if_pos c]
    exact natKV_some (by rw [graph_fst]; exact hn) (List.mem_map.mpr ⟨x, c, rfl⟩)
  · rw [if_neg c]
    exact natKV_none (by rw [graph_fst]; exact c)
theorem cutV_from1 (xs : List V) : cutV xs (some 1) none = xs.drop 1 := by
  unfold cutV
  rw [show HT.sIx xs.length 0 (some 1) = min 1 xs.length from HT.sIx_nat xs.length 0 1, HT.sIx_none]
  cases xs with
  | nil => rfl
  | cons x r =>
    rw [show min 1 (x :: r).length = 1 by rw [List.length_cons]; omega]
    show (List.take ((x :: r).length - 1) r) = r
    rw [List.length_cons, Nat.add_sub_cancel]
    exact List.take_length
theorem cutV_to1 (xs : List V) : cutV xs none (some 1) = xs.take 1 := by
  unfold cutV
  rw [show HT.sIx xs.length xs.length (some 1) = min 1 xs.length from HT.sIx_nat xs.length xs.length 1, HT.sIx_none, List.drop_zero, Nat.sub_zero]
  cases xs with
  | nil => rfl
  | cons x r => rw [show min 1 (x :: r).length = 1 by rw [List.length_cons]; omega]
theorem rot_nv (r : List Nat) : (rot r).map nv = (r.map nv).drop 1 ++ (r.map nv).take 1 := by
  unfold rot
  rw [List.map_append, List.map_drop, List.map_take]
section
variable {P : Program} {w : World} {K : PySem.W.Frag} {mg : Str → Option Value} {base : Heap}
/-- a def with defaults that lets nothing out -/
theorem okD {x qual : Str} {params : Arguments} {body : List Stmt} {scope : Scope} {dvs : List V} {kws : List (Str × V)} {f : Addr} {fd : FuncData} {N ps : List Str} {k : Nat} {sp : Sp} (F : FunD K x qual params body scope dvs kws f fd) (S : FnScope N ps scope) (len : ∀ vs H Q E, sp vs H Q E → vs.length = ps.length)
    (hb : ∀ (cdv : Value) (A : Around) (outer : List Env) (s : Shared) (H : Hp) (vs : List V) (Q : VK) (E : XK), Room k (A.deeper (envOfC qual scope s.heap.objs.size f cdv)) → sp vs H Q E →
      ∃ t, PSs (cxOf CX0 P w K mg base N qual scope f cdv A outer s H E).nox body t ∧ t { nx := fun _ H' => Q .non H', rt := Q } (start N vs) H) : FnOk P w K mg base CX0 (k + 1) f fd ps sp :=
  F.ok S len fun cdv A outer s H vs Q E hr h => by
    obtain ⟨t, p, q⟩ := hb cdv A outer s H vs Q E hr h
    exact ⟨t, p.nox, q⟩
/-! ### moves_of -/
abbrev s_moves_of : Stmt := top 12
theorem sc_moves_of : FnScope ["rings", "size", "moves", "index", "ring", "place", "image"] ["rings", "size"] (defScope s_moves_of) := ⟨rfl, rfl, rfl, by decide +kernel, rfl, by decide +kernel, by decide +kernel⟩

/-- the size: None, or a number above all places -/
def SizeV (z : V) (rs : List (List Nat)) : Prop := z = .non ∨ ∃ n : Nat, z = nv n ∧ ∀ x ∈ rs.flatten, x < n
def spMoves (K : PySem.W.Frag) : Sp := fun vs H Q _ => ∃ (a : Addr) (z : V) (as : List Addr) (rs : List (List Nat)), vs = [.ref a, z] ∧ SqL K H a (as.map V.ref) ∧ Rg H as rs ∧ SizeV z rs ∧ (∀ r ∈ rs, r ≠ []) ∧ rs.flatten.Nodup ∧ rs.flatten.length ≤ 1000 ∧
  ∀ (d : Addr) (H' : Hp), Same H H' → H d = none → H' d = some (.dK (natKV (pairs rs))) → Q (.ref d) H'
theorem ok_moves_of {f : Addr} {fd : FuncData} (F : FunD K "moves_of" "moves_of" (defArgs s_moves_of) (defBody s_moves_of) (defScope s_moves_of) [.non] [] f fd) (T : Blt mg) : FnOk P w K mg base CX0 1 f fd ["rings", "size"] (spMoves K) := by
  refine okD F sc_moves_of (fun vs H Q E h => ?_) (fun cdv A outer s H vs Q E hr h => ?_)
  · obtain ⟨a, z, as, rs, rfl, _⟩ := h; rfl
  · obtain ⟨a, z, as, rs, rfl, hS, hg, hz, hne, hnd, hlen, q⟩ := h
    have hu := hu_of hr
    refine ⟨_, (pss_cons (ps_set (i := 2) sc_moves_of.nd rfl (.inl rfl) pe_dnewK)
    (pss_cons (ps_for PassesOwn.never rfl (pi_enum (by rfl) T.enumerate (pa_cons (pv 0) pa_nil)) (pg_tup rfl (pgs_cons (pg_name (i := 3) sc_moves_of.nd rfl (.inl rfl)) (pgs_cons (pg_name (i := 4) sc_moves_of.nd rfl (.inl rfl)) pgs_nil))) (pss_cons (ps_if (pt_not (pt_truth (pv 4) (by intro _; rfl))) pss_never pss_nil)
    (pss_one (ps_for PassesOwn.never rfl (pi_zip (by rfl) T.zip (pa_cons (pv 4) (pa_cons (pe_op op_cat (pe_slice sl_list (pv 4) (po_some pe_int) po_none) (pe_slice sl_list (pv 4) po_none (po_some pe_int))) pa_nil))) (pg_tup rfl (pgs_cons (pg_name (i := 5) sc_moves_of.nd rfl (.inl rfl)) (pgs_cons (pg_name (i := 6) sc_moves_of.nd rfl (.inl rfl)) pgs_nil))) (pss_cons (ps_if (PW.pt (pw_or (pt_cmpR op_lt (pv 5) pe_int (nomark _)) (pw_or (pt_cmp (pc_din hu (pv 5) (pv 2))) (pw_or1 (PW.pt (pw_and (pt_cmpR op_notN (pv 1) pe_non (nomark _)) (pw_and1 (pt_cmpR op_ge (pv 5) (pv 1) (nomark _))))))))) pss_never pss_nil)
    (pss_one (ps_dput hu (pv 2) (pv 5) (pv 6) rfl)))))))
    (pss_one (ps_ret (pv 2))))), ?_⟩
    intro d nd
    have s1 : Same H (upd H d (.dK [])) := same_upd nd
    refine ⟨.ref a, rfl, a, _, rfl, s1.seq hS, ?_⟩
    refine for_it (walk_enum (K := K) (a := a) (xs := as.map V.ref)) (fun i σ H1 => ∃ v3 v4 v5 v6 : Option V, σ = [some (.ref a), some z, some (.ref d), v3, v4, v5, v6] ∧ Same H H1 ∧ H1 d = some (.dK (natKV (pairs (rs.take i)))))
      ⟨none, none, none, none, rfl, s1, upd_same⟩ (fun i σ H1 _ ⟨_, _, _, _, _, s2, _⟩ => s2.seq hS) ?_ ?_
    · rintro i y σ H1 H2 hi ⟨v3, v4, v5, v6, rfl, s2, hd⟩ ⟨T1, x1, x2, rfl, nT, rfl, f1, f2⟩
      have e1 : x1 = V.int (i : Nat) := (Option.some.inj f1).symm
      subst e1
      rw [List.length_map] at hi
      obtain ⟨b, hb⟩ : ∃ b, as[i]? = some b := ⟨as[i], List.getElem?_eq_getElem hi⟩
      have e2 : x2 = V.ref b := by
        have f3 : (as.map V.ref)[i]? = some x2 := f2
        rw [List.getElem?_map, hb] at f3
        exact (Option.some.inj f3).symm
      subst e2
      have hir : i < rs.length := by rw [← hg.len]; exact hi
      obtain ⟨r, hr'⟩ : ∃ r, rs[i]? = some r := ⟨rs[i], List.getElem?_eq_getElem hir⟩
      have hbr := hg.at_ i b r hb hr'
      have hr0 : r ≠ [] := hne r (List.mem_of_getElem? hr')
      have dT : d ≠ T1 := ne_of_none hd nT
      have s3 : Same H (upd H1 T1 (.tup [V.int (i : Nat), V.ref b])) := mutS s2 (s2.free nT)
      -- index, ring = the pair
      refine ⟨T1, _, rfl, SqT.of upd_same, rfl, _, _, rfl, _, _, rfl, rfl, ?_⟩
      -- if not ring
      have hB : SqL K (upd H1 T1 (.tup [V.int (i : Nat), V.ref b])) b (r.map nv) := SqL.of (s3 _ _ hbr)
      refine ⟨_, rfl, true, .inl ⟨_, hB, by cases r with | nil => exact absurd rfl hr0 | cons x r => rfl⟩, iteF ?_⟩
      -- zip(ring, ring[1:] + ring[:1])
      refine ⟨_, rfl, _, rfl, 1, rfl, b, _, rfl, hB, fun p1 np1 => ⟨_, rfl, 1, rfl, b, _, rfl, (same_upd np1).seq hB, fun p2 np2 => ?_⟩⟩
      rw [cutV_from1, cutV_to1]
      rw [cutV_from1] at np2
      have n12 : p1 ≠ p2 := ne_of_none (upd_same (H := upd H1 T1 _)) np2
      refine ⟨p1, p2, _, _, rfl, rfl, by rw [upd_ne n12]; exact upd_same, upd_same, Nat.le_trans (show _ ≤ 2000 from ?_) (by decide), fun p3 np3 => ?_⟩
      · rw [List.length_drop, List.length_take, List.length_map]
        have : r.length ≤ rs.flatten.length := by
          have h1 : r.length = (nxt r).length := (nxt_len r).symm
          have h2 := pairs_snoc hr'
          have h3 := pairs_take_len rs (i + 1)
          rw [h2, List.length_append] at h3
          omega
        omega
      rw [← rot_nv]
      have sA : Same (upd H1 T1 (.tup [V.int (i : Nat), V.ref b])) (upd (upd (upd (upd H1 T1 (.tup [V.int (i : Nat), V.ref b])) p1 (.lst ((r.map nv).drop 1))) p2 (.lst ((r.map nv).take 1))) p3 (.lst ((rot r).map nv))) :=
        ((same_upd np1).trans (same_upd np2)).trans (same_upd np3)
      refine ⟨b, p3, _, _, rfl, sA.seq hB, SqL.of upd_same, ?_⟩
      have dp1 : d ≠ p1 := ne_of_none (H := upd H1 T1 _) (by rw [upd_ne dT]; exact hd) np1
      have dp2 : d ≠ p2 := ne_of_none (H := upd (upd H1 T1 _) p1 _) (by rw [upd_ne dp1, upd_ne dT]; exact hd) np2
      have dp3 : d ≠ p3 := ne_of_none (H := upd (upd (upd H1 T1 _) p1 _) p2 _) (by rw [upd_ne dp2, upd_ne dp1, upd_ne dT]; exact hd) np3
      have n3b : p3 ≠ b := fun e => by
        have h1 := (same_upd (o := .lst ((r.map nv).drop 1)) np1).trans (same_upd (o := .lst ((r.map nv).take 1)) np2)
        have h2 := h1 b _ (s3 _ _ hbr)
        rw [e, h2] at np3
        cases np3
      refine for_it (walk_zip (K := K) (a := b) (b := p3) (xs := r.map nv) (ys := (rot r).map nv) (n := r.length) (by rw [List.length_map, List.length_map, rot_len]; omega))
        (fun j σ H3 => ∃ v5 v6 : Option V, σ = [some (.ref a), some z, some (.ref d), some (V.int (i : Nat)), some (.ref b), v5, v6] ∧ Same H H3 ∧ H3 p3 = some (.lst ((rot r).map nv)) ∧ H3 d = some (.dK (natKV (pairs (rs.take i) ++ (nxt r).take j))))
        ⟨v5, v6, rfl, s3.trans sA, upd_same, by rw [upd_ne dp3, upd_ne dp2, upd_ne dp1, upd_ne dT, List.take_zero, List.append_nil]; exact hd⟩ (fun j σ H3 _ ⟨_, _, _, s4, h4, _⟩ => ⟨SqL.of (s4 _ _ hbr), SqL.of h4⟩) ?_ ?_
      · rintro j y σ H3 H4 hj ⟨v5, v6, rfl, s4, h4, h5⟩ ⟨T2, x1, x2, rfl, nT2, rfl, g1, g2⟩
        obtain ⟨x, hx, rfl⟩ := of_nv_get g1
        obtain ⟨y, hy, rfl⟩ := of_nv_get g2
        have dT2 : d ≠ T2 := ne_of_none h5 nT2
        have h5' : (upd H3 T2 (.tup [nv x, nv y])) d = some (.dK (natKV (pairs (rs.take i) ++ (nxt r).take j))) := by rw [upd_ne dT2]; exact h5
        have hno : valV (natKV (pairs (rs.take i) ++ (nxt r).take j)) (Sum.inl (x : Int)) = none := natKV_none (not_before hnd hr' hx)
        refine ⟨T2, _, rfl, SqT.of upd_same, rfl, _, _, rfl, _, _, rfl, rfl, ?_⟩
        -- the test
        refine ⟨_, rfl, _, _, rfl, rfl, _, rfl, decF (by omega) ?_⟩
        refine ⟨_, rfl, _, rfl, d, none, rfl, .inl ⟨_, _, .of h5', rfl, hno.symm⟩, _, rfl, iteF ?_⟩
        have fin : ∀ D : Ends, D.nx = (fun σ H' => ∃ v5 v6 : Option V, σ = [some (.ref a), some z, some (.ref d), some (V.int (i : Nat)), some (.ref b), v5, v6] ∧ Same H H' ∧ H' p3 = some (.lst ((rot r).map nv)) ∧ H' d = some (.dK (natKV (pairs (rs.take i) ++ (nxt r).take (j + 1))))) →
            sDPut (tVar 2) (tVar 5) (tVar 6) D [some (.ref a), some z, some (.ref d), some (V.int (i : Nat)), some (.ref b), some (nv x), some (nv y)] (upd H3 T2 (.tup [nv x, nv y])) := fun D hD => by
          refine ⟨_, rfl, _, rfl, _, rfl, d, _, rfl, DPut.k (k := Sum.inl (x : Int)) h5' ?_, ?_⟩
          · rw [natKV_len, List.length_append, List.length_take]
            refine small64 ?_
            have h3 := pairs_take_len rs (i + 1)
            rw [pairs_snoc hr', List.length_append] at h3
            omega
          · rw [hD]
            have p3T : p3 ≠ T2 := ne_of_none h4 nT2
            have dp3' : p3 ≠ d := dp3.symm
            refine ⟨_, _, rfl, mutS (mutS s4 (s4.free nT2)) nd, by rw [upd_ne dp3', upd_ne p3T]; exact h4, ?_⟩
            rw [upd_same, putK_new _ hno, take_snoc (nxt_get hx hy), ← List.append_assoc, natKV_append (_ ++ _)]
            rfl
        rcases hz with rfl | ⟨n, rfl, hn⟩
        · exact ⟨_, rfl, rfl, _, rfl, iteF (iteF (fin _ rfl))⟩
        · have hxn : x < n := hn x (List.mem_flatten.mpr ⟨r, List.mem_of_getElem? hr', List.mem_of_getElem? hx⟩)
          refine ⟨_, rfl, rfl, _, rfl, iteT ⟨_, rfl, _, rfl, _, _, rfl, rfl, _, rfl, decF (by omega) (fin _ rfl)⟩⟩
      · rintro σ H3 ⟨v5, v6, rfl, s4, h4, h5⟩
        refine ⟨_, _, v5, v6, rfl, s4, ?_⟩
        have et : (nxt r).take r.length = nxt r := List.take_of_length_le (by rw [nxt_len]; exact Nat.le_refl _)
        rw [h5, pairs_snoc hr', et]
    · rintro σ H1 ⟨v3, v4, v5, v6, rfl, s2, hd⟩
      refine ⟨_, rfl, q d H1 s2 nd ?_⟩
      rw [hd, List.length_map, hg.len, List.take_length]
end
section
variable {P : Program} {w : World} {K : PySem.W.Frag} {mg : Str → Option Value} {base : Heap}
/-! ### rings_of -/
abbrev s_rings_of : Stmt := top 13
theorem sc_rings_of : FnScope ["moves", "rings", "seen", "first", "ring", "place"] ["moves"] (defScope s_rings_of) := ⟨rfl, rfl, rfl, by decide +kernel, rfl, by decide +kernel, by decide +kernel⟩

/-- the places xs, each once, below n; f leads them, and stays elsewhere -/
structure Moves (f : Nat → Nat) (n : Nat) (ks : List Nat) : Prop where
  perm : PermF f n
  nd : ks.Nodup
  lt : ∀ k ∈ ks, k < n
  all : ∀ x, x < n → f x ≠ x → x ∈ ks
  cl : ∀ k ∈ ks, f k ∈ ks
  few : ks.length < 64
  small : ks.length * n ≤ 4000
def spRingsOf : Sp := fun vs H Q _ => ∃ (d : Addr) (f : Nat → Nat) (n : Nat) (ks : List Nat), vs = [.ref d] ∧ H d = some (.dK (natKV (graph f ks))) ∧ Moves f n ks ∧
  ∀ (o : Addr) (as : List Addr) (H' : Hp), Same H H' → H o = none → (∀ a ∈ as, H a = none) → o ∉ as → as.Nodup → H' o = some (.lst (as.map V.ref)) → Rg H' as (rings f n) → Q (.ref o) H'
theorem it_in {f : Nat → Nat} {n : Nat} {ks : List Nat} (M : Moves f n ks) {y : Nat} (h : y ∈ ks) : ∀ j, it f j y ∈ ks
  | 0 => h
  | j + 1 => M.cl _ (it_in M h j)
theorem ok_rings_of {f : Addr} {fd : FuncData} (F : Fun K "rings_of" "rings_of" s_rings_of f fd) (T : Blt mg) : FnOk P w K mg base CX0 1 f fd ["moves"] spRingsOf := by
  refine F.ok sc_rings_of (fun vs H Q E h => ?_) (fun cdv A outer s H vs Q E hr h => ?_)
  · obtain ⟨d, f, n, ks, rfl, _⟩ := h; rfl
  · obtain ⟨d, f, n, ks, rfl, hd, M, q⟩ := h
    have PF := M.perm
    have hu := hu_of hr
    have get : ∀ {H' : Hp}, Same H H' → ∀ y, y ∈ ks → DGet H' d (V.int (y : Int)) (some (nv (f y))) := fun s y hy =>
      .inl ⟨_, Sum.inl (y : Int), .of (s _ _ hd), rfl, by rw [graph_get M.nd, if_pos hy]⟩
    refine ⟨_, (pss_cons (ps_set (i := 1) sc_rings_of.nd rfl (.inl rfl) (pe_lst pa_nil))
    (pss_cons (ps_set (i := 2) sc_rings_of.nd rfl (.inl rfl) (pe_callTy0 cr_set0 (by rfl) T.set (by decide +kernel)))
    (pss_cons (ps_for PassesOwn.never rfl (pi_list (pe_callB (call_sortedDI rfl) (by rfl) T.sorted (by decide +kernel) (pa_cons (pv 0) pa_nil))) (pg_name (i := 3) sc_rings_of.nd rfl (.inl rfl)) (pss_cons (ps_if (PW.pt (pw_or (pt_cmpR or_sin (pv 3) (pv 2) rfl) (pw_or1 (pt_cmpR op_eq (pe_dget hu (pv 0) (pv 3) (fun _ _ => rfl)) (pv 3) (nomark _))))) (pss_one ps_continue) pss_nil)
    (pss_cons (ps_set (i := 4) sc_rings_of.nd rfl (.inl rfl) (pe_lst (pa_cons (pv 3) pa_nil)))
    (pss_cons (ps_set (i := 5) sc_rings_of.nd rfl (.inl rfl) (pe_dget hu (pv 0) (pv 3) (fun _ _ => rfl)))
    (pss_cons (ps_while PassesOwn.never (pt_cmpR op_ne (pv 5) (pv 3) (nomark _)) (pss_cons (ps_expr (pe_bm PySem.F.plainAttrs_list PySem.F.slot_list_append PySem.F.type_list_append mt_append (pv 4) (pa_cons (pv 5) pa_nil)))
    (pss_cons (ps_expr (pe_sadd (pv 2) (pa_cons (pv 5) pa_nil)))
    (pss_one (ps_set (i := 5) sc_rings_of.nd rfl (.inl rfl) (pe_dget hu (pv 0) (pv 5) (fun _ _ => rfl)))))))
    (pss_one (ps_expr (pe_bm PySem.F.plainAttrs_list PySem.F.slot_list_append PySem.F.type_list_append mt_append (pv 1) (pa_cons (pv 4) pa_nil)))))))))
    (pss_one (ps_ret (pv 1)))))), ?_⟩
    -- rings = []; seen = set()
    refine ⟨Nat.zero_le _, fun o no => ⟨rfl, fun e ne => ?_⟩⟩
    have s1 : Same H (upd H o (.lst [])) := same_upd no
    have s2 : Same H (upd (upd H o (.lst [])) e (SetO w e (fun _ => false) 0)) := s1.trans (same_upd ne)
    have noe : o ≠ e := ne_of_none (H := upd H o (.lst [])) upd_same ne
    -- sorted(moves)
    refine ⟨_, rfl, d, _, ks.map fun (k : Nat) => (k : Int), rfl, .of (s2 _ _ hd), ?_, by rw [List.length_map]; exact M.few, fun ys p hp hs np => ?_⟩
    · unfold natKV graph
      rw [List.map_map, List.map_map, List.map_map]
      rfl
    obtain ⟨zs, rfl, zp, zs1⟩ := perm_nat hp hs M.nd
    have zlt : ∀ y ∈ zs, y < n := fun y hy => M.lt y (zp.mem_iff.mp hy)
    have zall : ∀ x, x < n → f x ≠ x → x ∈ zs := fun x h1 h2 => zp.mem_iff.mpr (M.all x h1 h2)
    have zlen : zs.length = ks.length := zp.length_eq
    have em : (zs.map fun (k : Nat) => (k : Int)).map V.int = zs.map nv := by rw [List.map_map]; rfl
    rw [em] at *
    have nop : o ≠ p := ne_of_none (H := upd (upd H o (.lst [])) e _) (by rw [upd_ne noe]; exact upd_same) np
    have nep : e ≠ p := ne_of_none (H := upd (upd H o (.lst [])) e _) upd_same np
    have ne' : H e = none := s1.free ne
    have np' : H p = none := s2.free np
    refine ⟨p, rfl, ⟨_, SqL.of upd_same⟩, for_list (K := K) (a := p) (xs := zs.map nv) (fun i σ H1 => ∃ (v3 v4 v5 : Option V) (S : Int → Bool) (c : Nat) (as : List Addr), σ = [some (.ref d), some (.ref o), some (.ref e), v3, v4, v5] ∧ Same H H1 ∧
        H1 p = some (.lst (zs.map nv)) ∧ H1 e = some (SetO w e S c) ∧ (∀ x : Nat, S (x : Int) = true ↔ Marked f n (zs.take i) x) ∧ c ≤ i * n ∧
        H1 o = some (.lst (as.map V.ref)) ∧ Rg H1 as (ringsIn f n (zs.take i)) ∧ o ∉ as ∧ as.Nodup ∧ (∀ a ∈ as, H a = none))
      ⟨none, none, none, fun _ => false, 0, [], rfl, s2.trans (same_upd np), upd_same, by rw [upd_ne nep]; exact upd_same, fun x => ⟨fun h => by simp at h, fun ⟨q, h, _⟩ => by simp at h⟩, Nat.zero_le _, by rw [upd_ne nop, upd_ne noe, upd_same]; rfl, Rg.nil, by simp, by simp, by simp⟩
      (fun i σ H1 _ ⟨_, _, _, _, _, _, _, _, h, _⟩ => SqL.of h) ?_ ?_⟩
    · rintro i yy σ H1 hi ⟨v3, v4, v5, S, c, as, rfl, s3, h1, h2, hS, hc, ho, hg, hoa, hnd, hfr⟩
      obtain ⟨y, hy, rfl⟩ := of_nv_get hi
      have hyz : y ∈ zs := List.mem_of_getElem? hy
      have hyk : y ∈ ks := zp.mem_iff.mp hyz
      have hyn : y < n := zlt y hyz
      have hil : i < zs.length := (List.getElem?_eq_some_iff.mp hy).1
      have ml := marked_iff PF zs1 zlt zall hy
      -- first in seen
      refine ⟨_, rfl, _, rfl, (y : Int), e, S, c, rfl, rfl, h2, _, rfl, ?_⟩
      have stay : headB f n y = false → ∃ (u3 u4 u5 : Option V) (S : Int → Bool) (c : Nat) (as : List Addr), ([some (.ref d), some (.ref o), some (.ref e), some (nv y), v4, v5] : L2.St) = [some (.ref d), some (.ref o), some (.ref e), u3, u4, u5] ∧ Same H H1 ∧
          H1 p = some (.lst (zs.map nv)) ∧ H1 e = some (SetO w e S c) ∧ (∀ x : Nat, S (x : Int) = true ↔ Marked f n (zs.take (i + 1)) x) ∧ c ≤ (i + 1) * n ∧
          H1 o = some (.lst (as.map V.ref)) ∧ Rg H1 as (ringsIn f n (zs.take (i + 1))) ∧ o ∉ as ∧ as.Nodup ∧ (∀ a ∈ as, H a = none) := fun hb =>
        ⟨_, v4, v5, S, c, as, rfl, s3, h1, h2, fun x => (hS x).trans (marked_stay hy hb x).symm, by rw [Nat.succ_mul]; omega, ho, by rw [ringsIn_stay hy hb]; exact hg, hoa, hnd, hfr⟩
      by_cases cs : S (y : Int) = true
      · rw [cs]
        refine iteT (iteT ?_)
        have l0 := ml.mp ((hS y).mp cs)
        obtain ⟨w3, w4, w5, S1, c1, as1, q1, q2⟩ := stay (by unfold headB; rw [l0]; rfl)
        exact ⟨w3, w4, w5, S1, c1, as1, q1, q2⟩
      · have cs' : S (y : Int) = false := by simpa using cs
        rw [cs']
        refine iteF ?_
        have l1 : lead f n y = true := by
          cases z : lead f n y with
          | true => rfl
          | false => exact absurd ((hS y).mpr (ml.mpr z)) cs
        refine ⟨_, rfl, _, rfl, d, _, rfl, get s3 y hyk, _, rfl, rfl, _, rfl, ?_⟩
        by_cases cf : f y = y
        · refine decT (by rw [cf]) ?_
          obtain ⟨w3, w4, w5, S1, c1, as1, q1, q2⟩ := stay (by unfold headB; rw [cf]; simp)
          exact ⟨w3, w4, w5, S1, c1, as1, q1, q2⟩
        refine decF (fun z => cf (by have := V.int.inj z; omega)) ?_
        have hb : headB f n y = true := headB_iff.mpr ⟨l1, cf⟩
        obtain ⟨p0, pe, pl, _⟩ := per_spec PF hyn
        have p1 : per f n y ≠ 1 := fun z => cf ((per_one PF hyn).mp z)
        -- ring = [first]; place = moves[first]
        refine ⟨_, rfl, by show 1 ≤ sizeLine; decide, fun r nr => ?_⟩
        have nro : o ≠ r := ne_of_none ho nr
        have nre : e ≠ r := ne_of_none h2 nr
        have nrp : p ≠ r := ne_of_none h1 nr
        have hrn : H r = none := s3.free nr
        have hra : r ∉ as := fun hm => by
          obtain ⟨z, hz⟩ := hg.know hm
          rw [hz] at nr
          cases nr
        have hea : e ∉ as := fun hm => by
          obtain ⟨z, hz⟩ := hg.know hm
          rw [hz] at h2
          cases h2
        have s4 : Same H (upd H1 r (.lst [nv y])) := mutS s3 hrn
        refine ⟨_, rfl, _, rfl, d, _, rfl, get s4 y hyk, ?_⟩
        -- while place != first
        have bnd : (i + 1) * n ≤ 4000 := Nat.le_trans (Nat.mul_le_mul_right n (by omega)) M.small
        refine ⟨fun m σ H2 => ∃ (j : Nat) (S' : Int → Bool) (c' : Nat), j < per f n y ∧ m = per f n y - (j + 1) ∧ σ = [some (.ref d), some (.ref o), some (.ref e), some (nv y), some (.ref r), some (nv (it f (j + 1) y))] ∧ Same H H2 ∧
            H2 p = some (.lst (zs.map nv)) ∧ H2 e = some (SetO w e S' c') ∧ (∀ x : Nat, S' (x : Int) = true ↔ (S (x : Int) = true ∨ ∃ k, 1 ≤ k ∧ k < j + 1 ∧ x = it f k y)) ∧ c' ≤ i * n + j ∧
            H2 r = some (.lst ((pref f y (j + 1)).map nv)) ∧ H2 o = some (.lst (as.map V.ref)) ∧ Rg H2 as (ringsIn f n (zs.take i)), ⟨_, 0, S, c, p0, rfl, rfl, s4, by rw [upd_ne nrp]; exact h1, by rw [upd_ne nre]; exact h2, fun x => ⟨fun h => .inl h, fun h => h.elim id fun ⟨k, k1, k2, _⟩ => by omega⟩, hc, upd_same, by rw [upd_ne nro]; exact ho, hg.upd hra⟩, ?_⟩
        rintro m σ H2 ⟨j, S', c', hj, rfl, rfl, t3, t1, t2, tS, tc, tr, to, tg⟩
        have hlt : it f j y < n := PF.it_lt j hyn
        refine ⟨_, rfl, _, rfl, rfl, _, rfl, ?_⟩
        by_cases cb : it f (j + 1) y = y
        · have ej := (back_iff PF hyn hj).mp cb
          rw [cb, decide_eq_true rfl]
          refine iteF ?_
          have eR : pref f y (j + 1) = ring f n y := by rw [ej]; rfl
          rw [eR] at tr
          -- rings.append(ring)
          refine ⟨_, rfl, .inl ⟨rfl, _, SqL.of to⟩, _, rfl, o, _, _, rfl, rfl, to, small64 (by rw [List.length_map, tg.len]; have := ringsIn_len f n (zs.take i); rw [List.length_take] at this; have := M.few; omega), ?_⟩
          have nop' : p ≠ o := nop.symm
          have noe' : e ≠ o := noe.symm
          refine ⟨_, _, _, S', c', as ++ [r], rfl, mutS t3 no, by rw [upd_ne nop']; exact t1, by rw [upd_ne noe']; exact t2, fun x => ?_, ?_, by rw [upd_same, List.map_append]; rfl, ?_, ?_, nd_snoc hnd hra, ?_⟩
          · rw [tS x, hS x, marked_more hy hb x, ring_tail PF hyn, ← ej]
          · rw [Nat.succ_mul]; omega
          · rw [ringsIn_more hy hb]
            exact (tg.upd hoa).snoc (by rw [upd_ne nro.symm]; exact tr)
          · rw [List.mem_append, not_or]
            exact ⟨hoa, fun h => nro (List.mem_singleton.mp h)⟩
          · intro b hb'
            rcases List.mem_append.mp hb' with h | h
            · exact hfr b h
            · rw [List.mem_singleton.mp h]; exact hrn
        · have ej : j + 1 ≠ per f n y := fun z => cb ((back_iff PF hyn hj).mpr z)
          have hk1 : it f (j + 1) y ∈ ks := it_in M hyk (j + 1)
          have hin : i * n + n ≤ 4000 := by rw [← Nat.succ_mul]; exact bnd
          rw [decide_eq_false (fun z => cb (by have := V.int.inj z; omega))]
          refine iteT ⟨fun σ' H' => ∃ (S' : Int → Bool) (c' : Nat), σ' = [some (.ref d), some (.ref o), some (.ref e), some (nv y), some (.ref r), some (nv (it f (j + 1 + 1) y))] ∧ Same H H' ∧
            H' p = some (.lst (zs.map nv)) ∧ H' e = some (SetO w e S' c') ∧ (∀ x : Nat, S' (x : Int) = true ↔ (S (x : Int) = true ∨ ∃ k, 1 ≤ k ∧ k < j + 1 + 1 ∧ x = it f k y)) ∧ c' ≤ i * n + (j + 1) ∧
            H' r = some (.lst ((pref f y (j + 1 + 1)).map nv)) ∧ H' o = some (.lst (as.map V.ref)) ∧ Rg H' as (ringsIn f n (zs.take i)), fun σ' H' ⟨S2, c2, h⟩ => ⟨per f n y - (j + 1 + 1), by omega, j + 1, S2, c2, by omega, rfl, h⟩, ?_⟩
          -- ring.append(place); seen.add(place); place = moves[place]
          refine ⟨_, rfl, .inl ⟨rfl, _, SqL.of tr⟩, _, rfl, r, _, _, rfl, rfl, tr, small64 (by rw [List.length_map, pref_len]; omega), ?_⟩
          have u2 : (upd H2 r (.lst ((pref f y (j + 1)).map nv ++ [nv (it f (j + 1) y)]))) e = some (SetO w e S' c') := by rw [upd_ne nre]; exact t2
          refine ⟨_, rfl, ⟨e, S', c', rfl, u2⟩, _, rfl, e, _, S', c', rfl, rfl, u2, by show c' + 1 < 4096; omega, ?_⟩
          have s5 : Same H (upd (upd H2 r (.lst ((pref f y (j + 1)).map nv ++ [nv (it f (j + 1) y)]))) e (SetO w e (fun k => S' k || decide (k = ((it f (j + 1) y : Nat) : Int))) (if S' ((it f (j + 1) y : Nat) : Int) = true then c' else c' + 1))) := mutS (mutS t3 hrn) ne'
          refine ⟨_, rfl, _, rfl, d, _, rfl, get s5 _ hk1, ?_⟩
          refine ⟨_, _, rfl, s5, by rw [upd_ne nep.symm, upd_ne nrp]; exact t1, upd_same, fun x => ?_, by split <;> omega, by rw [upd_ne nre.symm, upd_same, pref_succ f y (j + 1), List.map_append]; rfl, by rw [upd_ne noe, upd_ne nro]; exact to, (tg.upd hra).upd hea⟩
          rw [Bool.or_eq_true, decide_eq_true_eq, tS x]
          constructor
          · rintro ((h | ⟨k, k1, k2, e1⟩) | h)
            · exact .inl h
            · exact .inr ⟨k, k1, by omega, e1⟩
            · exact .inr ⟨j + 1, by omega, by omega, by omega⟩
          · rintro (h | ⟨k, k1, k2, e1⟩)
            · exact .inl (.inl h)
            · by_cases ck : k = j + 1
              · subst ck; exact .inr (by rw [e1])
              · exact .inl (.inr ⟨k, k1, by omega, e1⟩)
    · rintro σ H1 ⟨v3, v4, v5, S, c, as, rfl, s3, h1, h2, hS, hc, ho, hg, hoa, hnd, hfr⟩
      rw [List.length_map, List.take_length, ringsIn_all zs1 zlt zall] at hg
      exact ⟨_, rfl, q o as H1 s3 no hfr hoa hnd ho hg⟩
end
/-! ### wires -/
/-- a wire's two attributes -/
def wF (n : Nat) (l : Addr) : List (Str × V) := [("size", nv n), ("_images", .ref l)]
theorem lk1 {k : Str} {v : V} {r : List (Str × V)} : List.lookup k ((k, v) :: r) = some v := by simp only [List.lookup, beq_self_eq_true k]
theorem lk2 {k g : Str} {v : V} {r : List (Str × V)} (h : (k == g) = false) : List.lookup k ((g, v) :: r) = List.lookup k r := by simp only [List.lookup, h]
theorem wF_size (n : Nat) (l : Addr) : (wF n l).lookup ("size" : Str) = some (nv n) := lk1
theorem wF_im (n : Nat) (l : Addr) : (wF n l).lookup ("_images" : Str) = some (.ref l) := (lk2 (by decide +kernel)).trans lk1
theorem wF_no (n : Nat) (l : Addr) {m : Str} (h1 : (m == ("size" : Str)) = false) (h2 : (m == ("_images" : Str)) = false) : (wF n l).lookup m = none := (lk2 h1).trans (lk2 h2)
theorem wF_new (n : Nat) (l : Addr) : putF "_images" (.ref l) (putF "size" (nv n) []) = wF n l := by
  show putF "_images" (V.ref l) [(("size" : Str), nv n)] = _
  show (if (("size" : Str) = "_images") then _ else (("size" : Str), nv n) :: putF "_images" (V.ref l) []) = wF n l
  rw [if_neg (by decide +kernel)]
  rfl
/-- the wire with the images im, its list at l -/
def WireL (C : Addr) (H : Hp) (a l : Addr) (im : List Nat) : Prop := (∃ dx, H a = some (.ins C dx (wF im.length l))) ∧ H l = some (.lst (im.map nv))
def WireAt (C : Addr) (H : Hp) (a : Addr) (im : List Nat) : Prop := ∃ l, WireL C H a l im
theorem WireAt.mono {C : Addr} {H H' : Hp} {a : Addr} {im : List Nat} (x : WireAt C H a im) (s : Same H H') : WireAt C H' a im := by
  obtain ⟨l, ⟨dx, h1⟩, h2⟩ := x
  exact ⟨l, ⟨dx, s _ _ h1⟩, s _ _ h2⟩
/-- the class as the walk asks of it -/
structure WTxt (K : PySem.W.Frag) (C : Addr) : Prop where
  cl : Cls K C
  nS : NoAttr K C "size"
  nI : NoAttr K C "_images"
theorem enum_graph (im : List Nat) : mergeK [] (enumKV 0 (im.map nv)) = natKV (graph (ap im) (List.range im.length)) := by
  have key : ∀ (l : List (Nat × Nat)) (g : List (Nat × Nat)), ((g ++ l).map Prod.fst).Nodup → mergeK (natKV g) (natKV l) = natKV (g ++ l) := by
    intro l
    induction l with
    | nil => intro g _; rw [List.append_nil]; rfl
    | cons p l ih =>
      intro g hn
      have h1 : p.1 ∉ g.map Prod.fst := by
        rw [List.map_append] at hn
        intro hm
        exact (List.nodup_append.mp hn).2.2 _ hm _ List.mem_cons_self rfl
      show mergeK (putK (natKV g) (Sum.inl (p.1 : Int)) (nv p.2)) (natKV l) = _
      rw [putK_new _ (natKV_none h1)]
      have e : natKV g ++ [(Sum.inl (p.1 : Int), nv p.2)] = natKV (g ++ [p]) := by rw [natKV_append]; rfl
      rw [e, ih (g ++ [p]) (by rw [List.append_assoc]; exact hn), List.append_assoc]
      rfl
  have e : enumKV 0 (im.map nv) = natKV (graph (ap im) (List.range im.length)) := by
    apply List.ext_getElem?
    intro i
    rw [enumKV_get, natKV, graph, List.getElem?_map, List.getElem?_map, List.getElem?_map, Nat.zero_add]
    by_cases c : i < im.length
    · rw [List.getElem?_range c, ap_get c]; rfl
    · rw [List.getElem?_eq_none (show im.length ≤ i by omega), List.getElem?_eq_none (show (List.range im.length).length ≤ i by rw [List.length_range]; omega)]; rfl
  rw [e]
  have := key (graph (ap im) (List.range im.length)) [] (by rw [List.nil_append, graph_fst]; exact List.nodup_range)
  rw [List.nil_append] at this
  exact this
theorem moves_of_perm {im : List Nat} (hI : IsPerm im) (hn : im.length ≤ 60) : Moves (ap im) im.length (List.range im.length) where
  perm := hI.perm
  nd := List.nodup_range
  lt k h := List.mem_range.mp h
  all x h _ := List.mem_range.mpr h
  cl k h := List.mem_range.mpr (hI.perm.lt k (List.mem_range.mp h))
  few := by rw [List.length_range]; omega
  small := by
    rw [List.length_range]
    exact Nat.le_trans (Nat.mul_le_mul hn hn) (by decide)
section
variable {P : Program} {w : World} {K : PySem.W.Frag} {mg : Str → Option Value} {base : Heap} {C : Addr}
/-! ### Wire.__init__ -/
abbrev s_Wire_init : Stmt := inClass (top 10) 0
theorem sc_Wire_init : FnScope ["self", "size", "rings", "moves", "place"] ["self", "size", "rings"] (defScope s_Wire_init) := ⟨rfl, rfl, rfl, by decide +kernel, rfl, by decide +kernel, by decide +kernel⟩

/-- rings that f leads on; f stays elsewhere -/
structure RingsOf (f : Nat → Nat) (n : Nat) (rs : List (List Nat)) : Prop where
  ne : ∀ r ∈ rs, r ≠ []
  nd : rs.flatten.Nodup
  lt : ∀ x ∈ rs.flatten, x < n
  fol : ∀ r ∈ rs, Follows f r
  stay : ∀ x, x < n → x ∉ rs.flatten → f x = x
theorem RingsOf.few {f : Nat → Nat} {n : Nat} {rs : List (List Nat)} (R : RingsOf f n rs) : rs.flatten.length ≤ n := nodup_le n _ R.nd R.lt
theorem ringsOf_perm {f : Nat → Nat} {n : Nat} (P : PermF f n) : RingsOf f n (rings f n) :=
  ⟨fun _ h => rings_ne P h, rings_nodup P, fun _ h => rings_lt P h, fun _ h => rings_follow P h, fun _ h1 h2 => rings_stay P h1 h2⟩
def spInit (K : PySem.W.Frag) (C : Addr) : Sp := fun vs H Q _ => ∃ (p dx a : Addr) (n : Nat) (f : Nat → Nat) (as : List Addr) (rs : List (List Nat)), vs = [.ref p, nv n, .ref a] ∧ H p = some (.ins C dx []) ∧ SqL K H a (as.map V.ref) ∧ Rg H as rs ∧ RingsOf f n rs ∧ 1 ≤ n ∧ n ≤ 1000 ∧
  ∀ (l : Addr) (H' : Hp), (∀ b o, H b = some o → b ≠ p → H' b = some o) → H l = none → H' p = some (.ins C dx (wF n l)) → H' l = some (.lst (((List.range n).map f).map nv)) → Q .non H'
theorem ok_Wire_init {f : Addr} {fd : FuncData} (F : Fun K "__init__" "Wire.__init__" s_Wire_init f fd) (T : Blt mg) (W : WTxt K C) (D_moves_of : DefOk P w K mg base CX0 1 "moves_of" ["rings", "size"] [] (spMoves K)) :
    FnOk P w K mg base CX0 2 f fd ["self", "size", "rings"] (spInit K C) := by
  refine F.ok sc_Wire_init (fun vs H Q E h => ?_) (fun cdv A outer s H vs Q E hr h => ?_)
  · obtain ⟨p, dx, a, n, f, as, rs, rfl, _⟩ := h; rfl
  · obtain ⟨p, dx, a, n, f, as, rs, rfl, hp, hS, hg, R, n1, n2, q⟩ := h
    have hu := hu_of hr
    refine ⟨_, (pss_cons (ps_if (pt_cmpR op_lt (pv 1) pe_int (nomark _)) pss_never pss_nil)
    (pss_cons (ps_set (i := 3) sc_Wire_init.nd rfl (.inr rfl) (pe_d D_moves_of hr pass0 (pa_cons (pv 2) (pa_cons (pv 1) pa_nil))))
    (pss_cons (ps_fld (pv 0) (pv 1) rfl)
    (pss_one (ps_fld (pv 0) (pe_lc (own := [("place", 4)]) (tt := tYes) rfl sc_Wire_init.nd (pi_range1 (by rfl) T.range (pa_cons (pv 1) pa_nil)) (blkOk_by (N := ["self", "size", "rings", "moves", "place"]) (sc := defScope s_Wire_init) (by decide +kernel)) (fun _ _ _ _ _ => (pg_name (i := 4) sc_Wire_init.nd rfl (.inl rfl))) (fun _ _ _ _ _ => pts_nil) (fun _ _ _ _ _ => by exact (pe_dget2 hu (pv 3) (pv 4) (pv 4) ⟨rfl, rfl, rfl, rfl⟩))) rfl))))), ?_⟩
    refine ⟨_, rfl, _, _, rfl, rfl, _, rfl, decF (by omega) ?_⟩
    -- moves = moves_of(rings, size)
    refine ⟨_, rfl, _, rfl, a, nv n, as, rs, rfl, hS, hg, .inr ⟨n, rfl, R.lt⟩, R.ne, R.nd, Nat.le_trans R.few n2, fun d H1 s1 nd hd => ?_⟩
    rw [pairs_follow R.fol] at hd
    have hp1 := s1 _ _ hp
    -- self.size = size
    refine ⟨_, rfl, _, rfl, p, C, dx, [], rfl, hp1, W.cl, W.nS, (by show 0 < 1000; decide), ?_⟩
    have ndp : d ≠ p := fun e => by rw [e, hp] at nd; cases nd
    -- self._images = [..]
    refine ⟨_, rfl, _, rfl, by omega, by omega, fun l nl => ?_⟩
    rw [Int.toNat_natCast]
    have npl : p ≠ l := ne_of_none (H := upd H1 p _) upd_same nl
    have hl0 : H l = none := by
      cases z : H l with
      | none => rfl
      | some o =>
        rw [upd_ne npl.symm, s1 _ _ z] at nl
        cases nl
    refine lc_range (lo := 0) (n := n) (fun i H2 => Same (upd H1 p (.ins C dx (putF "size" (nv n) []))) H2 ∧ H2 l = some (.lst (((List.range i).map f).map nv))) ⟨same_upd nl, upd_same⟩ ?_ ?_
    · rintro i H2 hi ⟨s2, hl⟩
      rw [Int.zero_add]
      refine ⟨rfl, ?_⟩
      refine yesT ?_
      have hd2 : H2 d = some (.dK (natKV (graph f rs.flatten))) := s2 _ _ (by rw [upd_ne ndp]; exact hd)
      refine ⟨_, rfl, d, rfl, .inl ⟨_, .of hd2⟩, _, rfl, _, rfl, _, .inl ⟨_, Sum.inl (i : Int), .of hd2, rfl, rfl⟩, _, hl, small64 (by rw [List.length_map, List.length_map, List.length_range]; omega), mutS s2 nl, ?_⟩
      rw [upd_same, graph_get R.nd, List.range_succ, List.map_append, List.map_append]
      by_cases c : i ∈ rs.flatten
      · rw [if_pos c]; rfl
      · rw [if_neg c]
        show _ = some (HO.lst (((List.range i).map f).map nv ++ [nv (f i)]))
        rw [R.stay i hi c]
        rfl
    · rintro H2 ⟨s2, hl⟩
      refine ⟨_, rfl, p, C, dx, _, rfl, s2 _ _ upd_same, W.cl, W.nI, (by show 1 < 1000; decide), ?_⟩
      refine q l _ (fun b o hb hbp => ?_) hl0 (by rw [upd_same, wF_new]) (by rw [upd_ne npl.symm]; exact hl)
      rw [upd_ne hbp]
      exact s2 _ _ (by rw [upd_ne hbp]; exact s1 _ _ hb)
/-! ### Wire.rings -/
abbrev s_Wire_rings : Stmt := inClass (top 10) 3
theorem sc_Wire_rings : FnScope ["self"] ["self"] (defScope s_Wire_rings) := ⟨rfl, rfl, rfl, by decide +kernel, rfl, by decide +kernel, by decide +kernel⟩

def spWRings (C : Addr) : Sp := fun vs H Q _ => ∃ (a : Addr) (im : List Nat), vs = [.ref a] ∧ WireAt C H a im ∧ IsPerm im ∧ im.length ≤ 60 ∧
  ∀ (o : Addr) (as : List Addr) (H' : Hp), Same H H' → H o = none → (∀ a ∈ as, H a = none) → o ∉ as → as.Nodup → H' o = some (.lst (as.map V.ref)) → Rg H' as (rings (ap im) im.length) → Q (.ref o) H'
theorem ok_Wire_rings {f : Addr} {fd : FuncData} (F : Fun K "rings" "Wire.rings" s_Wire_rings f fd) (T : Blt mg) (W : WTxt K C) (D_rings_of : DefOk P w K mg base CX0 1 "rings_of" ["moves"] [] spRingsOf) :
    FnOk P w K mg base CX0 2 f fd ["self"] (spWRings C) := by
  refine F.ok sc_Wire_rings (fun vs H Q E h => ?_) (fun cdv A outer s H vs Q E hr h => ?_)
  · obtain ⟨a, im, rfl, _⟩ := h; rfl
  · obtain ⟨a, im, rfl, ⟨l, ⟨dx, h1⟩, h2⟩, hI, hn, q⟩ := h
    refine ⟨_, (pss_one (ps_ret (pe_d D_rings_of hr pass0 (pa_cons (pe_dictEnum rfl (by rfl) T.dict (by rfl) T.enumerate (pe_fld (pv 0) rfl)) pa_nil)))), ?_⟩
    refine ⟨_, rfl, a, C, dx, _, _, rfl, h1, W.cl, W.nI, wF_im _ _, l, _, rfl, SqL.of h2, fun d nd => ?_⟩
    rw [enum_graph]
    refine ⟨d, ap im, im.length, _, rfl, upd_same, moves_of_perm hI hn, fun o as H' s no nas hoa hnd ho hg => ?_⟩
    have s0 : Same H (upd H d (.dK (natKV (graph (ap im) (List.range im.length))))) := same_upd nd
    exact q o as H' (s0.trans s) (s0.free no) (fun b hb => s0.free (nas b hb)) hoa hnd ho hg
/-! ### Wire.order -/
abbrev s_Wire_order : Stmt := inClass (top 10) 5
theorem sc_Wire_order : FnScope ["self", "least", "ring"] ["self"] (defScope s_Wire_order) := ⟨rfl, rfl, rfl, by decide +kernel, rfl, by decide +kernel, by decide +kernel⟩

def spOrder (C : Addr) : Sp := fun vs H Q _ => ∃ (a : Addr) (im : List Nat), vs = [.ref a] ∧ WireAt C H a im ∧ IsPerm im ∧ im.length ≤ 60 ∧ ∀ H' : Hp, Same H H' → Q (nv (lcmTo (rings (ap im) im.length))) H'
theorem ok_Wire_order {f : Addr} {fd : FuncData} (F : Fun K "order" "Wire.order" s_Wire_order f fd) (B : Blt mg) (T : WTxt K C) (lcm : mg "lcm" = some (.builtin "math.lcm")) (D_Wire_rings : MethOk P w K mg base CX0 2 C "rings" ["self"] [] (spWRings C)) :
    FnOk P w K mg base CX0 3 f fd ["self"] (spOrder C) := by
  refine F.ok sc_Wire_order (fun vs H Q E h => ?_) (fun cdv A outer s H vs Q E hr h => ?_)
  · obtain ⟨a, im, rfl, _⟩ := h; rfl
  · obtain ⟨a, im, rfl, hW, hI, hn, q⟩ := h
    have P := hI.perm
    obtain ⟨l, ⟨dx, h1⟩, h2⟩ := id hW
    refine ⟨_, (pss_cons (ps_set (i := 1) sc_Wire_order.nd rfl (.inl rfl) pe_int)
      (pss_cons (ps_for PassesOwn.never rfl (pi_list (pe_m0 D_Wire_rings T.cl hr pass0 (pv 0))) (pg_name (i := 2) sc_Wire_order.nd rfl (.inl rfl)) (pss_one (ps_set (i := 1) sc_Wire_order.nd rfl (.inl rfl) (pe_callBfun cr_lcm (by rfl) lcm (pa_cons (pv 1) (pa_cons (pe_callB call_len_seq (by rfl) B.len PySem.boot_len (pa_cons (pv 2) pa_nil)) pa_nil))))))
      (pss_one (ps_ret (pv 1))))), ?_⟩
    refine ⟨_, rfl, a, dx, _, rfl, h1, wF_no _ _ (by decide +kernel) (by decide +kernel), a, im, rfl, hW, hI, hn, fun o as H1 s1 no nas hoa hnd ho hg => ?_⟩
    refine ⟨o, rfl, ⟨_, SqL.of ho⟩, for_list (K := K) (a := o) (xs := as.map V.ref) (fun i σ H2 => ∃ v2 : Option V, σ = [some (.ref a), some (nv (lcmTo ((rings (ap im) im.length).take i))), v2] ∧ H2 = H1) ⟨none, rfl, rfl⟩ (fun i σ H2 _ ⟨_, _, e⟩ => by rw [e]; exact SqL.of ho) ?_ ?_⟩
    · rintro i y σ H2 hi ⟨v2, rfl, rfl⟩
      obtain ⟨b, hb, rfl⟩ : ∃ b, as[i]? = some b ∧ y = V.ref b := by
        rw [List.getElem?_map] at hi
        cases e : as[i]? with
        | none => rw [e] at hi; cases hi
        | some b => rw [e] at hi; exact ⟨b, rfl, (Option.some.inj hi).symm⟩
      have hil : i < (rings (ap im) im.length).length := by rw [← hg.len]; exact (List.getElem?_eq_some_iff.mp hb).1
      obtain ⟨r, hr'⟩ : ∃ r, (rings (ap im) im.length)[i]? = some r := ⟨_, List.getElem?_eq_getElem hil⟩
      have hbr := hg.at_ i b r hb hr'
      have rlen : r.length ≤ im.length := by
        obtain ⟨p, hp, rfl⟩ := List.mem_map.mp (List.mem_of_getElem? hr')
        rw [ring_len]
        exact (per_spec P (mem_heads.mp hp).1).2.2.1
      refine ⟨_, rfl, _, rfl, b, _, rfl, .inl (SqL.of hbr), _, _, rfl, lcmTo_lt P hn i, ?_, ?_⟩
      · rw [List.length_map]; omega
      · refine ⟨some (V.ref b), ?_, rfl⟩
        rw [List.length_map, lcmTo_snoc hr']
        rfl
    · rintro σ H2 ⟨v2, rfl, rfl⟩
      rw [List.length_map, hg.len, List.take_length]
      exact ⟨_, rfl, q _ s1⟩
end
theorem dec_nv (a b : Nat) : decide (nv a = nv b) = decide (a = b) := by
  by_cases c : a = b
  · rw [decide_eq_true c, decide_eq_true (by rw [c])]
  · rw [decide_eq_false c, decide_eq_false (fun z => c (by have := V.int.inj z; omega))]
section
variable {P : Program} {w : World} {K : PySem.W.Frag} {mg : Str → Option Value} {base : Heap} {C : Addr}
/-! ### _law_wire -/
abbrev s_l_wire : Stmt := top 24
theorem sc_l_wire : FnScope ["_law_images"] ["_law_images"] (defScope s_l_wire) := ⟨rfl, rfl, rfl, by decide +kernel, rfl, by decide +kernel, by decide +kernel⟩

def spLWire (K : PySem.W.Frag) (C : Addr) : Sp := fun vs H Q _ => ∃ (a : Addr) (im : List Nat), vs = [.ref a] ∧ SqL K H a (im.map nv) ∧ IsPerm im ∧ 1 ≤ im.length ∧ im.length ≤ 100 ∧
  ∀ (x l : Addr) (H' : Hp), Same H H' → H x = none → H l = none → WireL C H' x l im → Q (.ref x) H'
theorem ok_l_wire {f : Addr} {fd : FuncData} (F : Fun K "_law_wire" "_law_wire" s_l_wire f fd) (T : Blt mg) (M_Wire : MakeOk P w K mg base CX0 2 C "Wire" ["self", "size", "rings"] [] (spInit K C)) (D_l_rings : DefOk P w K mg base CX0 1 "_law_rings" ["_law_images"] [] (spRings K)) :
    FnOk P w K mg base CX0 4 f fd ["_law_images"] (spLWire K C) := by
  refine F.ok sc_l_wire (fun vs H Q E h => ?_) (fun cdv A outer s H vs Q E hr h => ?_)
  · obtain ⟨a, im, rfl, _⟩ := h; rfl
  · obtain ⟨a, im, rfl, hS, hI, n1, n2, q⟩ := h
    have P := hI.perm
    refine ⟨_, (pss_one (ps_ret (pe_mk' M_Wire hr pass0 (pa_cons (pe_callB call_len_seq (by rfl) T.len PySem.boot_len (pa_cons (pv 0) pa_nil)) (pa_cons (pe_d D_l_rings hr pass0 (pa_cons (pv 0) pa_nil)) pa_nil))))), ?_⟩
    refine ⟨_, rfl, a, _, rfl, .inl hS, _, rfl, a, im, rfl, hS, hI, n2, fun o as H1 s1 no nas hoa hnd ho hg => ?_⟩
    intro x dx nx ndx nex
    have s2 : Same H1 (upd (upd H1 dx (.own x)) x (.ins C dx [])) := (same_upd ndx).trans (same_upd (by rw [upd_ne nex.symm]; exact nx))
    rw [List.length_map]
    refine ⟨x, dx, o, im.length, ap im, as, _, rfl, upd_same, SqL.of (s2 _ _ ho), hg.mono s2, ringsOf_perm P, n1, by omega, fun l H2 k nl hx hl => ⟨rfl, ?_⟩⟩
    have s3 : Same H1 H2 := Same.made nx ndx k
    rw [im_eq] at hl
    exact q x l H2 (s1.trans s3) (s1.free nx) ((s1.trans s2).free nl) ⟨⟨dx, hx⟩, hl⟩
/-! ### _law_of_kind -/
abbrev s_l_of_kind : Stmt := top 22
theorem sc_l_of_kind : FnScope ["_law_kind", "_law_bound", "_law_cell_here", "_law_n", "_law_draw", "_law_mixed", "_law_out", "_law_pairs", "_law_k"] ["_law_kind", "_law_bound", "_law_cell_here", "_law_n", "_law_draw"] (defScope s_l_of_kind) := ⟨rfl, rfl, rfl, by decide +kernel, rfl, by decide +kernel, by decide +kernel⟩

def spKind : Sp := fun vs H Q _ => ∃ (k : Str) (c : Int) (n d : Nat), vs = [.str k, .non, .int c, nv n, nv d] ∧ n ≤ 100 ∧
  ∀ (im : List Nat) (p : Addr) (H' : Hp), Same H H' → H p = none → H' p = some (.lst (im.map nv)) → IsPerm im → im.length = n → Q (.ref p) H'
theorem ok_l_of_kind {f : Addr} {fd : FuncData} (F : Fun K "_law_of_kind" "_law_of_kind" s_l_of_kind f fd) (T : Blt mg) (D_l_drawn : DefOk P w K mg base CX0 2 "_law_drawn" ["_law_cell_here", "_law_n"] [] spDrawn) :
    FnOk P w K mg base CX0 3 f fd ["_law_kind", "_law_bound", "_law_cell_here", "_law_n", "_law_draw"] spKind := by
  refine F.ok sc_l_of_kind (fun vs H Q E h => ?_) (fun cdv A outer s H vs Q E hr h => ?_)
  · obtain ⟨k, c, n, d, rfl, _⟩ := h; rfl
  · obtain ⟨k, c, n, d, rfl, hn, q⟩ := h
    refine ⟨_, (pss_cons (ps_set (i := 5) sc_l_of_kind.nd rfl (.inl rfl) (pe_d D_l_drawn hr pass0 (pa_cons (pv 2) (pa_cons (pv 3) pa_nil))))
    (pss_cons (ps_if (pt_cmpR op_eq (pv 0) pe_str (nomark _)) (pss_one (ps_ret (pv 5))) pss_nil)
    (pss_cons (ps_set (i := 6) sc_l_of_kind.nd rfl (.inl rfl) (pe_listRg rfl (by rfl) T.list (prg_1 (by rfl) T.range (pv 3))))
    (pss_cons (ps_set (i := 7) sc_l_of_kind.nd rfl (.inl rfl) (pe_op op_fdiv (pv 3) pe_int))
    (pss_cons (ps_if (pt_cmpR op_eq (pv 0) pe_str (nomark _)) (pss_cons (ps_set (i := 7) sc_l_of_kind.nd rfl (.inl rfl) (pe_op op_mod (pv 4) (pe_op op_add (pe_op op_fdiv (pv 3) pe_int) pe_int)))
    (pss_one (ps_if (PW.pt (pw_and (pt_cmpR op_notN (pv 1) pe_non (nomark _)) (pw_and1 (pt_cmpR op_gt (pv 7) (pv 1) (nomark _))))) (pss_one (ps_set (i := 7) sc_l_of_kind.nd rfl (.inl rfl) (pv 1))) pss_nil))) pss_nil)
    (pss_cons (ps_for PassesOwn.never rfl (pi_range1 (by rfl) T.range (pa_cons (pv 7) pa_nil)) (pg_name (i := 8) sc_l_of_kind.nd rfl (.inl rfl)) (pss_cons (ps_asg (pe_ix ix_list (pv 5) (pe_op op_add (pe_op op_mul pe_int (pv 8)) pe_int) (fun _ _ => rfl)) (pg_sub (pv 6) (pe_ix ix_list (pv 5) (pe_op op_mul pe_int (pv 8)) (fun _ _ => rfl)) set_list))
    (pss_one (ps_asg (pe_ix ix_list (pv 5) (pe_op op_mul pe_int (pv 8)) (fun _ _ => rfl)) (pg_sub (pv 6) (pe_ix ix_list (pv 5) (pe_op op_add (pe_op op_mul pe_int (pv 8)) pe_int) (fun _ _ => rfl)) set_list)))))
    (pss_one (ps_ret (pv 6))))))))), ?_⟩
    refine ⟨_, rfl, _, rfl, c, n, rfl, hn, fun mx m H1 s1 nm hm hI hl => ?_⟩
    refine ⟨_, rfl, rfl, _, rfl, ite2 (fun _ => ⟨_, rfl, q mx m H1 s1 nm hm hI hl⟩) (fun _ => ?_)⟩
    -- out = list(range(n)); pairs = n // 2
    refine ⟨_, rfl, _, rfl, ⟨by omega, by omega, by omega, by omega, by omega⟩, fun o no => ?_⟩
    rw [rgV_nat]
    have s2 : Same H (upd H1 o (.lst ((List.range n).map nv))) := s1.trans (same_upd no)
    have nmo : m ≠ o := ne_of_none hm no
    refine ⟨_, rfl, _, _, rfl, rfl, ⟨by decide, by decide⟩, ?_⟩
    -- the loop, for any number of pairs
    have loop : ∀ (pr : Nat) (D : Ends), pr ≤ n / 2 → D.rt = Q →
        tSeq (tFor (iRng1 (tCons (tVar 7) tNil)) (gName 8) (tSeq (tAsg (tOp (rIxL K) (tVar 5) (tOp (rI0 fun i j => .int (i + j)) (tOp (rI CMul fun i j => .int (i * j)) (tC (.int 2)) (tVar 8)) (tC (.int 1)))) (gSub (tVar 6) (tOp (rIxL K) (tVar 5) (tOp (rI CMul fun i j => .int (i * j)) (tC (.int 2)) (tVar 8))) rSetL))
          (tAsg (tOp (rIxL K) (tVar 5) (tOp (rI CMul fun i j => .int (i * j)) (tC (.int 2)) (tVar 8))) (gSub (tVar 6) (tOp (rIxL K) (tVar 5) (tOp (rI0 fun i j => .int (i + j)) (tOp (rI CMul fun i j => .int (i * j)) (tC (.int 2)) (tVar 8)) (tC (.int 1)))) rSetL)))) (tRet (tVar 6)) D
          [some (.str k), some .non, some (.int c), some (nv n), some (nv d), some (.ref m), some (.ref o), some (nv pr), none] (upd H1 o (.lst ((List.range n).map nv))) := fun pr D hpr hD => by
      refine ⟨_, rfl, (pr : Int), rfl, by omega, by omega, ?_⟩
      rw [Int.toNat_natCast]
      refine for_range (lo := 0) (n := pr) (fun i σ H2 => ∃ (v8 : Option V) (g : Nat → Nat), σ = [some (.str k), some .non, some (.int c), some (nv n), some (nv d), some (.ref m), some (.ref o), some (nv pr), v8] ∧ H2 = upd H1 o (.lst (((List.range n).map g).map nv)) ∧ Swp mx n i g)
        ⟨none, id, rfl, by rw [List.map_id], Swp.start⟩ ?_ ?_
      · rintro i σ H2 hi ⟨v8, g, rfl, rfl, S⟩
        rw [Int.zero_add]
        obtain ⟨a, ha⟩ : ∃ a, mx[2 * i]? = some a := ⟨_, List.getElem?_eq_getElem (by omega)⟩
        obtain ⟨b, hb⟩ : ∃ b, mx[2 * i + 1]? = some b := ⟨_, List.getElem?_eq_getElem (by omega)⟩
        have han : a < n := by rw [← hl]; exact hI.lt a (List.mem_of_getElem? ha)
        have hbn : b < n := by rw [← hl]; exact hI.lt b (List.mem_of_getElem? hb)
        have hM : ∀ z, SqL K (upd H1 o z) m (mx.map nv) := fun z => SqL.of (by rw [upd_ne nmo]; exact hm)
        have ea : atI (mx.map nv) (2 * (i : Int)) = some (nv a) := by
          rw [show (2 * (i : Int)) = ((2 * i : Nat) : Int) by omega]
          exact atI_nat (nv_get ha)
        have eb : atI (mx.map nv) (2 * (i : Int) + 1) = some (nv b) := by
          rw [show (2 * (i : Int) + 1) = ((2 * i + 1 : Nat) : Int) by omega]
          exact atI_nat (nv_get hb)
        have ix : ∀ (l : List V) (z : Nat), l.length = n → z < n → ixN l.length (z : Int) = some z := fun l z hl hz => by
          unfold ixN
          rw [if_pos (by omega), if_pos (by omega)]
          simp
        refine ⟨_, rfl, _, rfl, _, _, rfl, rfl, .inl ⟨by decide, by decide⟩, _, _, rfl, rfl, m, _, _, _, rfl, rfl, hM _, eb, ?_⟩
        refine ⟨_, rfl, _, rfl, _, rfl, _, _, rfl, rfl, .inl ⟨by decide, by decide⟩, m, _, _, _, rfl, rfl, hM _, ea, ?_⟩
        refine ⟨o, _, _, a, rfl, rfl, upd_same, ix _ a (by rw [List.length_map, List.length_map, List.length_range]) han, ?_⟩
        rw [upd_upd]
        refine ⟨_, rfl, _, rfl, _, _, rfl, rfl, .inl ⟨by decide, by decide⟩, m, _, _, _, rfl, rfl, hM _, ea, ?_⟩
        refine ⟨_, rfl, _, rfl, _, rfl, _, _, rfl, rfl, .inl ⟨by decide, by decide⟩, _, _, rfl, rfl, m, _, _, _, rfl, rfl, hM _, eb, ?_⟩
        refine ⟨o, _, _, b, rfl, rfl, upd_same, ix _ b (by rw [List.length_set, List.length_map, List.length_map, List.length_range]) hbn, ?_⟩
        rw [upd_upd]
        refine ⟨_, swp g a b, rfl, ?_, S.more hI hl ha hb⟩
        congr 2
        rw [← swp_list, List.map_set, List.map_set]
      · rintro σ H2 ⟨v8, g, rfl, rfl, S⟩
        refine ⟨_, rfl, ?_⟩
        have e : D.rt (V.ref o) (upd H1 o (.lst (((List.range n).map g).map nv))) := by
          rw [hD]
          exact q _ o _ (mutS s1 (s1.free no)) (s1.free no) upd_same (isPerm_of_graph S.perm) (by rw [List.length_map, List.length_range])
        exact e
    refine ⟨_, rfl, rfl, _, rfl, ite2 (fun _ => ?_) (fun _ => ?_)⟩
    · refine ⟨_, rfl, _, rfl, _, _, rfl, rfl, ⟨by decide, by decide⟩, _, _, rfl, rfl, _, _, rfl, rfl, (by show (0 : Int) < (n : Int) / 2 + 1; omega), ?_⟩
      refine ⟨_, rfl, rfl, _, rfl, iteF (iteF ?_)⟩
      have e : V.int ((d : Int) % ((n : Int) / 2 + 1)) = nv (d % (n / 2 + 1)) := by
        show V.int _ = V.int _
        congr 1
      show tSeq _ _ _ [some (.str k), some .non, some (.int c), some (nv n), some (nv d), some (.ref m), some (.ref o), some (V.int ((d : Int) % ((n : Int) / 2 + 1))), none] _
      rw [e]
      exact loop _ _ (by have := Nat.mod_lt d (show 0 < n / 2 + 1 by omega); omega) rfl
    · exact loop (n / 2) _ (Nat.le_refl _) rfl
end
/-- built-in names and the class -/
structure BltC (K : PySem.W.Frag) (mg : Str → Option Value) (C : Addr) : Prop extends Blt mg where
  cl : Cls K C
section
variable {P : Program} {w : World} {K : PySem.W.Frag} {mg : Str → Option Value} {base : Heap} {C : Addr}
/-! ### Wire.is_swaps, Wire.is_mirror -/
abbrev s_Wire_is_swaps : Stmt := inClass (top 10) 6
theorem sc_Wire_is_swaps : FnScope ["self", "place", "image"] ["self"] (defScope s_Wire_is_swaps) := ⟨rfl, rfl, rfl, by decide +kernel, rfl, by decide +kernel, by decide +kernel⟩

def spSwaps (C : Addr) : Sp := fun vs H Q _ => ∃ (a : Addr) (im : List Nat), vs = [.ref a] ∧ WireAt C H a im ∧ IsPerm im ∧ im.length ≤ 1000 ∧ ∀ H' : Hp, Same H H' → Q (.bl (swB im)) H'
theorem all_range_map (n : Nat) (p : Nat → Bool) : ((List.range n).map p).all id = (List.range n).all p := by
  rw [List.all_map]
  rfl
theorem ok_Wire_is_swaps {f : Addr} {fd : FuncData} (F : Fun K "is_swaps" "Wire.is_swaps" s_Wire_is_swaps f fd) (T : Blt mg) (W : WTxt K C) : FnOk P w K mg base CX0 1 f fd ["self"] (spSwaps C) := by
  refine F.ok sc_Wire_is_swaps (fun vs H Q E h => ?_) (fun cdv A outer s H vs Q E hr h => ?_)
  · obtain ⟨a, im, rfl, _⟩ := h; rfl
  · obtain ⟨a, im, rfl, ⟨l, ⟨dx, h1⟩, h2⟩, hI, hn, q⟩ := h
    refine ⟨_, (pss_one (ps_ret (pe_callB (cr_all rfl) (by rfl) T.all (by decide +kernel) (pa_cons (pe_lc (own := [("place", 1), ("image", 2)]) (tt := tYes) (g := gTup K 2 (gCons (gName 1) (gCons (gName 2) gNil))) (te := tOp rEq (tOp (rIxL K) (tFld K (tVar 0) "_images") (tVar 2)) (tVar 1)) rfl sc_Wire_is_swaps.nd (pi_enum (by rfl) T.enumerate (pa_cons (pe_fld (pv 0) rfl) pa_nil)) (blkOk_by (N := ["self", "place", "image"]) (sc := defScope s_Wire_is_swaps) (by decide +kernel)) (fun _ _ _ _ _ => (pg_tup rfl (pgs_cons (pg_name (i := 1) sc_Wire_is_swaps.nd rfl (.inl rfl)) (pgs_cons (pg_name (i := 2) sc_Wire_is_swaps.nd rfl (.inl rfl)) pgs_nil)))) (fun _ _ _ _ _ => pts_nil) (fun _ _ _ _ _ => by exact (pe_cmpR op_eq (pe_ix ix_list (pe_fld (pv 0) rfl) (pv 2) (fun _ _ => rfl)) (pv 1) (nomark _)))) pa_nil)))), ?_⟩
    refine ⟨_, rfl, a, C, dx, _, _, rfl, h1, W.cl, W.nI, wF_im _ _, l, _, rfl, SqL.of h2, fun D nD => ?_⟩
    refine lc_it (walk_enum (K := K) (a := l) (xs := im.map nv)) (fun i H1 => Same H H1 ∧ H1 D = some (.lst (((List.range i).map fun p => decide (ap im (ap im p) = p)).map V.bl))) ⟨same_upd nD, upd_same⟩ (fun i H1 _ h => h.1.seq (SqL.of h2)) ?_ ?_
    · rintro i y H1 H2 hi ⟨s1, hD⟩ ⟨T1, x1, x2, rfl, nT, rfl, f1, f2⟩
      rw [List.length_map] at hi
      have e1 : x1 = V.int (i : Nat) := (Option.some.inj f1).symm
      have e2 : x2 = nv (ap im i) := by
        have f3 : (im.map nv)[i]? = some x2 := f2
        rw [nv_get (ap_get hi)] at f3
        exact (Option.some.inj f3).symm
      subst e1; subst e2
      have hlt : ap im i < im.length := hI.perm.lt i hi
      have s2 : Same H (upd H1 T1 (.tup [V.int (i : Nat), nv (ap im i)])) := mutS s1 (s1.free nT)
      have nDT : D ≠ T1 := ne_of_none hD nT
      refine ⟨T1, _, rfl, SqT.of upd_same, rfl, _, _, rfl, _, _, rfl, rfl, rfl, ?_⟩
      refine yesT ?_
      refine ⟨_, rfl, a, C, dx, _, _, rfl, s2 _ _ h1, W.cl, W.nI, wF_im _ _, _, rfl, l, _, _, _, rfl, rfl, SqL.of (s2 _ _ h2), atI_nat (nv_get (ap_get hlt)), _, rfl, rfl, _, by rw [upd_ne nDT]; exact hD, small64 (by rw [List.length_map, List.length_map, List.length_range]; omega), mutS s2 nD, ?_⟩
      rw [upd_same, List.range_succ, List.map_append, List.map_append]
      have e3 : decide (nv (ap im (ap im i)) = V.int (i : Nat)) = decide (ap im (ap im i) = i) := dec_nv _ _
      rw [e3]
      rfl
    · rintro H1 ⟨s1, hD⟩
      rw [List.length_map] at hD
      refine ⟨D, _, rfl, SqL.of hD, ?_⟩
      rw [all_range_map]
      exact q _ s1
abbrev s_Wire_is_mirror : Stmt := inClass (top 10) 7
theorem sc_Wire_is_mirror : FnScope ["self", "place", "image"] ["self"] (defScope s_Wire_is_mirror) := ⟨rfl, rfl, rfl, by decide +kernel, rfl, by decide +kernel, by decide +kernel⟩

def spMirror (C : Addr) : Sp := fun vs H Q _ => ∃ (a : Addr) (im : List Nat), vs = [.ref a] ∧ WireAt C H a im ∧ IsPerm im ∧ im.length ≤ 1000 ∧ ∀ H' : Hp, Same H H' → Q (.bl (swB im && mvB im)) H'
theorem dec_nn (a b : Nat) : (!decide (nv a = nv b)) = decide (a ≠ b) := by
  rw [dec_nv]
  by_cases c : a = b
  · simp [c]
  · simp [c]
theorem ok_Wire_is_mirror {f : Addr} {fd : FuncData} (F : Fun K "is_mirror" "Wire.is_mirror" s_Wire_is_mirror f fd) (B : Blt mg) (W : WTxt K C) (D_Wire_is_swaps : MethOk P w K mg base CX0 1 C "is_swaps" ["self"] [] (spSwaps C)) : FnOk P w K mg base CX0 2 f fd ["self"] (spMirror C) := by
  refine F.ok sc_Wire_is_mirror (fun vs H Q E h => ?_) (fun cdv A outer s H vs Q E hr h => ?_)
  · obtain ⟨a, im, rfl, _⟩ := h; rfl
  · obtain ⟨a, im, rfl, hW, hI, hn, q⟩ := h
    obtain ⟨l, ⟨dx, h1⟩, h2⟩ := id hW
    have T : BltC K mg C := { toBlt := B, cl := W.cl }
    refine ⟨_, (pss_one (ps_ret (pe_and (pe_m0 D_Wire_is_swaps T.cl hr pass0 (pv 0)) (pe_one (pe_callB (cr_all rfl) (by rfl) T.all (by decide +kernel) (pa_cons (pe_lc (own := [("place", 1), ("image", 2)]) (tt := tYes) (g := gTup K 2 (gCons (gName 1) (gCons (gName 2) gNil))) rfl sc_Wire_is_mirror.nd (pi_enum (by rfl) T.enumerate (pa_cons (pe_fld (pv 0) rfl) pa_nil)) (blkOk_by (N := ["self", "place", "image"]) (sc := defScope s_Wire_is_mirror) (by decide +kernel)) (fun _ _ _ _ _ => (pg_tup rfl (pgs_cons (pg_name (i := 1) sc_Wire_is_mirror.nd rfl (.inl rfl)) (pgs_cons (pg_name (i := 2) sc_Wire_is_mirror.nd rfl (.inl rfl)) pgs_nil)))) (fun _ _ _ _ _ => pts_nil) (fun _ _ _ _ _ => by exact (pe_cmpR op_ne (pv 2) (pv 1) (nomark _)))) pa_nil)))))), ?_⟩
    refine ⟨_, rfl, a, dx, _, rfl, h1, wF_no _ _ (by decide +kernel) (by decide +kernel), a, im, rfl, hW, hI, hn, fun H0 s0 => ?_⟩
    refine ⟨_, rfl, ?_⟩
    cases hs : swB im with
    | false =>
      refine iteF ?_
      have := q H0 s0
      rw [hs] at this
      exact this
    | true =>
      refine iteT ?_
      refine ⟨_, rfl, a, C, dx, _, _, rfl, s0 _ _ h1, W.cl, W.nI, wF_im _ _, l, _, rfl, SqL.of (s0 _ _ h2), fun D nD => ?_⟩
      refine lc_it (walk_enum (K := K) (a := l) (xs := im.map nv)) (fun i H1 => Same H0 H1 ∧ H1 D = some (.lst (((List.range i).map fun p => decide (ap im p ≠ p)).map V.bl))) ⟨same_upd nD, upd_same⟩ (fun i H1 _ h => h.1.seq (SqL.of (s0 _ _ h2))) ?_ ?_
      · rintro i y H1 H2 hi ⟨s1, hD⟩ ⟨T1, x1, x2, rfl, nT, rfl, f1, f2⟩
        rw [List.length_map] at hi
        have e1 : x1 = V.int (i : Nat) := (Option.some.inj f1).symm
        have e2 : x2 = nv (ap im i) := by
          have f3 : (im.map nv)[i]? = some x2 := f2
          rw [nv_get (ap_get hi)] at f3
          exact (Option.some.inj f3).symm
        subst e1; subst e2
        have s2 : Same H0 (upd H1 T1 (.tup [V.int (i : Nat), nv (ap im i)])) := mutS s1 (s1.free nT)
        have nDT : D ≠ T1 := ne_of_none hD nT
        refine ⟨T1, _, rfl, SqT.of upd_same, rfl, _, _, rfl, _, _, rfl, rfl, rfl, ?_⟩
        refine yesT ?_
        refine ⟨_, rfl, _, rfl, rfl, _, by rw [upd_ne nDT]; exact hD, small64 (by rw [List.length_map, List.length_map, List.length_range]; omega), mutS s2 nD, ?_⟩
        rw [upd_same, List.range_succ, List.map_append, List.map_append]
        have e3 : (!decide (nv (ap im i) = V.int (i : Nat))) = decide (ap im i ≠ i) := dec_nn _ _
        rw [e3]
        rfl
      · rintro H1 ⟨s1, hD⟩
        rw [List.length_map] at hD
        refine ⟨D, _, rfl, SqL.of hD, ?_⟩
        rw [all_range_map]
        have := q H1 (s0.trans s1)
        rw [hs, Bool.true_and] at this
        exact this
/-! ### _law_multiple -/
abbrev s_l_multiple : Stmt := top 27
theorem sc_l_multiple : FnScope ["_law_a", "_law_b", "_law_least"] ["_law_a", "_law_b"] (defScope s_l_multiple) := ⟨rfl, rfl, rfl, by decide +kernel, rfl, by decide +kernel, by decide +kernel⟩

def spMult : Sp := fun vs H Q _ => ∃ a b : Nat, vs = [nv a, nv b] ∧ 0 < a ∧ 0 < b ∧ Q (nv (Nat.lcm a b)) H
theorem ok_l_multiple {f : Addr} {fd : FuncData} (F : Fun K "_law_multiple" "_law_multiple" s_l_multiple f fd) (T : Blt mg) : FnOk P w K mg base CX0 1 f fd ["_law_a", "_law_b"] spMult := by
  refine F.ok sc_l_multiple (fun vs H Q E h => ?_) (fun cdv A outer s H vs Q E hr h => ?_)
  · obtain ⟨a, b, rfl, _⟩ := h; rfl
  · obtain ⟨a, b, rfl, ha, hb, q⟩ := h
    refine ⟨_, (pss_cons (ps_set (i := 2) sc_l_multiple.nd rfl (.inl rfl) (pv 0))
    (pss_cons (ps_while PassesOwn.never (pt_cmpR op_ne (pe_op op_mod (pe_callTy call_int1 (by rfl) T.int (by decide +kernel) (pa_cons (pv 2) pa_nil)) (pv 1)) pe_int (nomark _)) (pss_one (ps_set (i := 2) sc_l_multiple.nd rfl (.inl rfl) (pe_op op_add (pv 2) (pv 0)))))
    (pss_one (ps_ret (pv 2))))), ?_⟩
    obtain ⟨c0, hc⟩ := Nat.dvd_lcm_left a b
    have hl : 0 < Nat.lcm a b := Nat.lcm_pos ha hb
    refine ⟨_, rfl, fun m σ H1 => ∃ k, 0 < k ∧ k ≤ c0 ∧ (∀ j, 0 < j → j < k → ¬ b ∣ j * a) ∧ m = c0 - k ∧ σ = [some (nv a), some (nv b), some (nv (k * a))] ∧ H1 = H, ⟨_, 1, by decide, ?_, fun j j1 j2 => by omega, rfl, by rw [Nat.one_mul]; rfl, rfl⟩, ?_⟩
    · rcases Nat.eq_zero_or_pos c0 with z | z
      · rw [z, Nat.mul_zero] at hc; omega
      · exact z
    · rintro m σ H1 ⟨k, k0, kc, hmin, rfl, rfl, rfl⟩
      refine ⟨_, rfl, .inl ⟨_, rfl, _, rfl, _, _, rfl, rfl, (by show (0 : Int) < b; omega), rfl, _, rfl, ?_⟩⟩
      have e : decide (V.int (((k * a : Nat) : Int) % (b : Int)) = V.int 0) = decide (b ∣ k * a) := by
        by_cases c : b ∣ k * a
        · rw [decide_eq_true c, decide_eq_true]
          rw [show (((k * a : Nat) : Int) % (b : Int)) = ((k * a % b : Nat) : Int) by omega, Nat.mod_eq_zero_of_dvd c]
          rfl
        · rw [decide_eq_false c, decide_eq_false]
          intro z
          have z1 := V.int.inj z
          apply c
          apply Nat.dvd_of_mod_eq_zero
          omega
      show (if (!decide (V.int (((k * a : Nat) : Int) % (b : Int)) = V.int 0)) = true then _ else _)
      rw [e]
      by_cases c : b ∣ k * a
      · rw [decide_eq_true c]
        refine iteF ⟨_, rfl, ?_⟩
        rw [lcm_of_le ha c k0 hmin]
        exact q
      · rw [decide_eq_false c]
        refine iteT ⟨fun σ' H' => σ' = [some (nv a), some (nv b), some (nv ((k + 1) * a))] ∧ H' = H1, fun σ' H' h => ⟨c0 - (k + 1), ?_, k + 1, by omega, ?_, ?_, rfl, h.1, h.2⟩, ?_⟩
        · have : k ≠ c0 := fun z => c (by rw [z, Nat.mul_comm, ← hc]; exact Nat.dvd_lcm_right a b)
          omega
        · have : k ≠ c0 := fun z => c (by rw [z, Nat.mul_comm, ← hc]; exact Nat.dvd_lcm_right a b)
          omega
        · intro j j1 j2
          by_cases cj : j = k
          · rw [cj]; exact c
          · exact hmin j j1 (by omega)
        · refine ⟨_, rfl, _, rfl, _, _, rfl, rfl, ?_, rfl⟩
          show [some (nv a), some (nv b), some (V.int (((k * a : Nat) : Int) + (a : Int)))] = _
          rw [Nat.succ_mul]
          rfl
end
/-! ### lists of ints and of bools compared -/
theorem dpI {K : PySem.W.Frag} {H : Hp} {a : Addr} {l : List Nat} (h : SqL K H a (l.map nv)) : Dp K H (.ref a) (.list (l.map fun (x : Nat) => PyData.int x)) := by
  refine .lst h ?_
  clear h
  induction l with
  | nil => exact .nil
  | cons x l ih => exact .cons (.int x) ih
theorem canI (l : List Nat) : PyData.canLayAll0 (l.map fun (x : Nat) => PyData.int x) = true := by
  induction l with
  | nil => rfl
  | cons x l ih =>
    rw [List.map_cons, PyData.canLayAll0, ih]
    rfl
theorem depI (l : List Nat) : PyData.depthAll (l.map fun (x : Nat) => PyData.int x) = 0 := by
  induction l with
  | nil => rfl
  | cons x l ih =>
    rw [List.map_cons, PyData.depthAll, ih]
    rfl
theorem shI (l : List Nat) : SeqAt.shaped (.list (l.map fun (x : Nat) => PyData.int x)) = true := by
  unfold SeqAt.shaped
  rw [PyData.canLay0, canI, PyData.depth, depI]
  rfl
theorem eqI (l m : List Nat) : PyData.eqv (.list (l.map fun (x : Nat) => PyData.int x)) (.list (m.map fun (x : Nat) => PyData.int x)) = decide (l = m) := by
  rw [PyData.eqv]
  induction l generalizing m with
  | nil =>
    cases m with
    | nil => rfl
    | cons y m => rfl
  | cons x l ih =>
    cases m with
    | nil => rfl
    | cons y m =>
      rw [List.map_cons, List.map_cons, PyData.eqvAll, ih m, PyData.eqv]
      by_cases c : x = y
      · subst c
        rw [beq_self_eq_true, Bool.true_and]
        simp
      · have : ((x : Int) == (y : Int)) = false := by rw [beq_eq_false_iff_ne]; omega
        rw [this, Bool.false_and]
        simp [c]
theorem filter_none {n : Nat} (p : Nat → Bool) : decide ((List.range n).filter p = []) = (List.range n).all fun x => !p x := by
  by_cases c : (List.range n).filter p = []
  · rw [decide_eq_true c]
    rw [List.filter_eq_nil_iff] at c
    symm
    rw [List.all_eq_true]
    intro x hx
    have := c x hx
    simpa using this
  · rw [decide_eq_false c]
    cases h : (List.range n).all fun x => !p x with
    | false => rfl
    | true =>
      exfalso
      apply c
      rw [List.filter_eq_nil_iff]
      intro x hx
      have := (List.all_eq_true.mp h) x hx
      simpa using this
theorem three {l : List Nat} (h : l.length = 3) : ∃ a b c, l = [a, b, c] := by
  match l, h with
  | [a, b, c], _ => exact ⟨a, b, c, rfl⟩
section
variable {P : Program} {w : World} {K : PySem.W.Frag} {mg : Str → Option Value} {base : Heap} {C : Addr}
abbrev s_law : Stmt := top 28
theorem sc_law : FnScope ["_law_script", "_law_row_here", "_law_size_here", "_law_images", "_law_wire_here", "_law_many", "_law_ring", "_law_least", "_law_swaps", "_law_mirror", "_law_told", "_law_place", "_law_one"] ["_law_script"] (defScope s_law) := ⟨rfl, rfl, rfl, by decide +kernel, rfl, by decide +kernel, by decide +kernel⟩

def spLaw (K : PySem.W.Frag) : Sp := fun vs H Q _ => ∃ (a : Addr) (ns : List Int), vs = [.ref a] ∧ SqL K H a (ns.map V.int) ∧ ns.length ≤ 63 ∧ ∀ H', Q (.bl true) H'
theorem ok_law {f : Addr} {fd : FuncData} (F : Fun K "law" "law" s_law f fd) (T : BltC K mg C)
    (D_l_cell : DefOk P w K mg base CX0 1 "_law_cell" ["_law_script", "_law_k"] [] (spCell K)) (D_l_row : DefOk P w K mg base CX0 1 "_law_row" ["_law_cell_here", "_law_sizes"] [] (spRow K))
    (D_l_size : DefOk P w K mg base CX0 1 "_law_size" ["_law_draw"] [] spSize) (D_l_of_kind : DefOk P w K mg base CX0 3 "_law_of_kind" ["_law_kind", "_law_bound", "_law_cell_here", "_law_n", "_law_draw"] [] spKind)
    (D_l_wire : DefOk P w K mg base CX0 4 "_law_wire" ["_law_images"] [] (spLWire K C)) (D_l_rings : DefOk P w K mg base CX0 1 "_law_rings" ["_law_images"] [] (spRings K))
    (D_l_multiple : DefOk P w K mg base CX0 1 "_law_multiple" ["_law_a", "_law_b"] [] spMult) (D_Wire_order : MethOk P w K mg base CX0 3 C "order" ["self"] [] (spOrder C))
    (D_Wire_is_swaps : MethOk P w K mg base CX0 1 C "is_swaps" ["self"] [] (spSwaps C)) (D_Wire_is_mirror : MethOk P w K mg base CX0 2 C "is_mirror" ["self"] [] (spMirror C)) :
    FnOk P w K mg base CX0 5 f fd ["_law_script"] (spLaw K) := by
  refine F.ok sc_law (fun vs H Q E h => ?_) (fun cdv A outer s H vs Q E hr h => ?_)
  · obtain ⟨a, ns, rfl, _⟩ := h; rfl
  · obtain ⟨a, ns, rfl, hS, hlen, q⟩ := h
    have hu2 : (A.deeper (envOfC "law" (defScope s_law) s.heap.objs.size f cdv)).units + 64 < cLine := by have := hr.un; omega
    refine ⟨_, (pss_cons (ps_set (i := 1) sc_law.nd rfl (.inl rfl) (pe_d D_l_row hr pass0 (pa_cons (pe_d D_l_cell hr pass0 (pa_cons (pv 0) (pa_cons pe_int pa_nil))) (pa_cons (pe_lst (pa_cons pe_int (pa_cons pe_int (pa_cons pe_int pa_nil)))) pa_nil))))
    (pss_cons (ps_set (i := 2) sc_law.nd rfl (.inl rfl) (pe_d D_l_size hr pass0 (pa_cons (pe_ix ix_list (pv 1) pe_int (fun _ _ => rfl)) pa_nil)))
    (pss_cons (ps_set (i := 3) sc_law.nd rfl (.inr rfl) (pe_d D_l_of_kind hr pass0 (pa_cons (pe_ix ix_list (pe_lst (pa_cons pe_str (pa_cons pe_str (pa_cons pe_str pa_nil)))) (pe_ix ix_list (pv 1) pe_int (fun _ _ => rfl)) (fun _ _ => rfl)) (pa_cons pe_non (pa_cons (pe_d D_l_cell hr pass0 (pa_cons (pv 0) (pa_cons pe_int pa_nil))) (pa_cons (pv 2) (pa_cons (pe_ix ix_list (pv 1) pe_int (fun _ _ => rfl)) pa_nil)))))))
    (pss_cons (ps_set (i := 4) sc_law.nd rfl (.inl rfl) (pe_d D_l_wire hr pass0 (pa_cons (pv 3) pa_nil)))
    (pss_cons (ps_set (i := 5) sc_law.nd rfl (.inl rfl) pe_int)
    (pss_cons (ps_for PassesOwn.never rfl (pi_list (pe_d D_l_rings hr pass0 (pa_cons (pv 3) pa_nil))) (pg_name (i := 6) sc_law.nd rfl (.inl rfl)) (pss_one (ps_set (i := 5) sc_law.nd rfl (.inl rfl) (pe_d D_l_multiple hr pass0 (pa_cons (pv 5) (pa_cons (pe_callB call_len_seq (by rfl) T.len PySem.boot_len (pa_cons (pv 6) pa_nil)) pa_nil))))))
    (pss_cons (ps_set (i := 7) sc_law.nd rfl (.inl rfl) (pe_m0 D_Wire_order T.cl hr pass0 (pv 4)))
    (pss_cons (ps_if (PW.pt (pw_or (pt_not (pt_truth (pe_callB call_isi (by rfl) T.isinstance (by decide +kernel) (pa_cons (pv 7) (pa_cons (pe_bltn (v := .ty "int") (by rfl) T.int (by decide +kernel) rfl) pa_nil))) (by intro _; rfl))) (pw_or (pt_truth (pe_callB call_isi (by rfl) T.isinstance (by decide +kernel) (pa_cons (pv 7) (pa_cons (pe_bltn (v := .ty "bool") (by rfl) T.bool (by decide +kernel) rfl) pa_nil))) (by intro _; rfl)) (pw_or1 (pt_cmpR op_ne (pv 7) (pv 5) (nomark _)))))) (pss_one (ps_ret pe_bl)) pss_nil)
    (pss_cons (ps_set (i := 8) sc_law.nd rfl (.inl rfl) (pe_cmpR (op_eqD hu2) (pe_lc (own := [("_law_place", 11)]) (tt := tTest (tOp rNe (tOp (rIxL K) (tVar 3) (tOp (rIxL K) (tVar 3) (tVar 11))) (tVar 11))) rfl sc_law.nd (pi_range1 (by rfl) T.range (pa_cons (pv 2) pa_nil)) (blkOk_by (N := ["_law_script", "_law_row_here", "_law_size_here", "_law_images", "_law_wire_here", "_law_many", "_law_ring", "_law_least", "_law_swaps", "_law_mirror", "_law_told", "_law_place", "_law_one"]) (sc := defScope s_law) (by decide +kernel)) (fun _ _ _ _ _ => (pg_name (i := 11) sc_law.nd rfl (.inl rfl))) (fun _ _ _ _ _ => (by exact (pts_one (pt_cmpR op_ne (pe_ix ix_list (pv 3) (pe_ix ix_list (pv 3) (pv 11) (fun _ _ => rfl)) (fun _ _ => rfl)) (pv 11) (nomark _))))) (fun _ _ _ _ _ => by exact (pv 11))) (pe_lst pa_nil) (nomark _)))
    (pss_cons (ps_set (i := 9) sc_law.nd rfl (.inl rfl) (pe_and (pv 8) (pe_one (pe_cmpR (op_eqD hu2) (pe_lc (own := [("_law_place", 11)]) (tt := tTest (tOp rEq (tOp (rIxL K) (tVar 3) (tVar 11)) (tVar 11))) rfl sc_law.nd (pi_range1 (by rfl) T.range (pa_cons (pv 2) pa_nil)) (blkOk_by (N := ["_law_script", "_law_row_here", "_law_size_here", "_law_images", "_law_wire_here", "_law_many", "_law_ring", "_law_least", "_law_swaps", "_law_mirror", "_law_told", "_law_place", "_law_one"]) (sc := defScope s_law) (by decide +kernel)) (fun _ _ _ _ _ => (pg_name (i := 11) sc_law.nd rfl (.inl rfl))) (fun _ _ _ _ _ => (by exact (pts_one (pt_cmpR op_eq (pe_ix ix_list (pv 3) (pv 11) (fun _ _ => rfl)) (pv 11) (nomark _))))) (fun _ _ _ _ _ => by exact (pv 11))) (pe_lst pa_nil) (nomark _)))))
    (pss_cons (ps_set (i := 10) sc_law.nd rfl (.inl rfl) (pe_lst (pa_cons (pe_m0 D_Wire_is_swaps T.cl hr pass0 (pv 4)) (pa_cons (pe_m0 D_Wire_is_mirror T.cl hr pass0 (pv 4)) pa_nil))))
    (pss_one (ps_ret (pe_and (pe_cmpR (op_eqD hu2) (pv 10) (pe_lst (pa_cons (pv 8) (pa_cons (pv 9) pa_nil))) (nomark _)) (pe_one (pe_cmpR (op_eqD hu2) (pe_lc (own := [("_law_one", 12)]) (tt := tNot (fun σ H Q => tCB (rIsi K) (tCons (tVar 12) (tCons (tC (.ty "bool")) tNil)) σ H fun x H1 => ∃ k, TruV K x H1 k ∧ Q k H1)) rfl sc_law.nd (pi_list (pv 10)) (blkOk_by (N := ["_law_script", "_law_row_here", "_law_size_here", "_law_images", "_law_wire_here", "_law_many", "_law_ring", "_law_least", "_law_swaps", "_law_mirror", "_law_told", "_law_place", "_law_one"]) (sc := defScope s_law) (by decide +kernel)) (fun _ _ _ _ _ => (pg_name (i := 12) sc_law.nd rfl (.inl rfl))) (fun _ _ _ _ _ => (by exact (pts_one (pt_not (pt_truth (pe_callB call_isi (by rfl) T.isinstance (by decide +kernel) (pa_cons (pv 12) (pa_cons (pe_bltn (v := .ty "bool") (by rfl) T.bool (by decide +kernel) rfl) pa_nil))) (by intro _; rfl)))))) (fun _ _ _ _ _ => by exact (pv 12))) (pe_lst pa_nil) (nomark _))))))))))))))))), ?_⟩
    -- row
    refine ⟨_, rfl, a, ns, 1, rfl, hS, fun z1 => ⟨by show 3 ≤ sizeLine; decide, fun L1 nL1 => ?_⟩⟩
    have t1 : Same H (upd H L1 (.lst [.int 96, .int 3, .int 60])) := same_upd nL1
    refine ⟨z1, L1, [96, 3, 60], rfl, SqL.of upd_same, by decide, by decide, fun ds p H1 s1 np hp hl hb => ?_⟩
    obtain ⟨d0, d1, d2, rfl⟩ := three hl
    have hd1 : d1 < 3 := hb 1 d1 3 rfl rfl
    have t2 : Same H H1 := t1.trans s1
    -- size
    refine ⟨_, rfl, p, _, 0, nv d0, rfl, rfl, SqL.of hp, atI_nat (j := 0) rfl, d0, rfl, fun n n1 n60 => ?_⟩
    -- images
    refine ⟨by show 3 ≤ sizeLine; decide, fun L2 nL2 => ?_⟩
    have t3 : Same H (upd H1 L2 (.lst [.str "wire", .str "swaps", .str "mirror"])) := t2.trans (same_upd nL2)
    have hp2 : (upd H1 L2 (.lst [.str "wire", .str "swaps", .str "mirror"])) p = some (.lst ([d0, d1, d2].map nv)) := same_upd nL2 _ _ hp
    obtain ⟨k, hk⟩ : ∃ k : Str, ([.str "wire", .str "swaps", .str "mirror"] : List V)[d1]? = some (.str k) := by
      match d1, hd1 with
      | 0, _ => exact ⟨_, rfl⟩
      | 1, _ => exact ⟨_, rfl⟩
      | 2, _ => exact ⟨_, rfl⟩
    refine ⟨_, rfl, p, _, 1, nv d1, rfl, rfl, SqL.of hp2, atI_nat (j := 1) rfl, L2, _, _, _, rfl, rfl, SqL.of upd_same, atI_nat hk, ?_⟩
    refine ⟨_, rfl, a, ns, 0, rfl, t3.seq hS, fun z2 => ⟨_, rfl, _, rfl, p, _, 2, nv d2, rfl, rfl, SqL.of hp2, atI_nat (j := 2) rfl, ?_⟩⟩
    refine ⟨k, z2, n, d2, rfl, by omega, fun im q1 H2 s2 nq hq hI hn => ?_⟩
    -- wire
    refine ⟨_, rfl, q1, im, rfl, SqL.of hq, hI, by omega, by omega, fun x l H3 s3 nx nl hW => ?_⟩
    have PM := hI.perm
    -- many
    refine ⟨_, rfl, q1, im, rfl, SqL.of (s3 _ _ hq), hI, by omega, fun o as H4 s4 no nas hoa hnd ho hg => ?_⟩
    refine ⟨o, rfl, ⟨_, SqL.of ho⟩, for_list (K := K) (a := o) (xs := as.map V.ref) (fun i σ H' => ∃ v6 : Option V, σ = [some (.ref a), some (.ref p), some (nv n), some (.ref q1), some (.ref x), some (nv (lcmTo ((rings (ap im) im.length).take i))), v6, none, none, none, none, none, none] ∧ H' = H4) ⟨none, rfl, rfl⟩ (fun i σ H' _ ⟨_, _, e⟩ => by rw [e]; exact SqL.of ho) ?_ ?_⟩
    · rintro i y σ H' hi ⟨v6, rfl, rfl⟩
      obtain ⟨b, hb', rfl⟩ : ∃ b, as[i]? = some b ∧ y = V.ref b := by
        rw [List.getElem?_map] at hi
        cases e : as[i]? with
        | none => rw [e] at hi; cases hi
        | some b => rw [e] at hi; exact ⟨b, rfl, (Option.some.inj hi).symm⟩
      have hil : i < (rings (ap im) im.length).length := by rw [← hg.len]; exact (List.getElem?_eq_some_iff.mp hb').1
      obtain ⟨r, hr'⟩ : ∃ r, (rings (ap im) im.length)[i]? = some r := ⟨_, List.getElem?_eq_getElem hil⟩
      have hbr := hg.at_ i b r hb' hr'
      refine ⟨_, rfl, _, rfl, b, _, rfl, .inl (SqL.of hbr), lcmTo ((rings (ap im) im.length).take i), r.length, by rw [List.length_map]; rfl, lcmTo_pos fun r' h' => rings_ne PM (List.mem_of_mem_take h'), List.length_pos_iff.mpr (rings_ne PM (List.mem_of_getElem? hr')), ?_⟩
      refine ⟨some (V.ref b), ?_, rfl⟩
      rw [lcmTo_snoc hr']
      rfl
    · rintro σ H' ⟨v6, rfl, rfl⟩
      rw [List.length_map, hg.len, List.take_length]
      obtain ⟨⟨dx, hx⟩, hl3⟩ := id hW
      have hW4 : WireAt C H' x im := WireAt.mono ⟨l, hW⟩ s4
      refine ⟨_, rfl, x, dx, _, rfl, s4 _ _ hx, wF_no _ _ (by decide +kernel) (by decide +kernel), x, im, rfl, hW4, hI, by omega, fun H5 s5 => ?_⟩
      -- the test
      refine ⟨_, rfl, _, _, _, _, true, rfl, .ty _, .base (.int _), kit_ty (by decide +kernel), true, rfl, iteF ?_⟩
      refine ⟨_, rfl, _, _, _, _, false, rfl, .ty _, .base (.int _), kit_ty (by decide +kernel), false, rfl, iteF ?_⟩
      refine ⟨_, rfl, _, rfl, rfl, _, rfl, ?_⟩
      rw [decide_eq_true rfl]
      refine iteF ?_
      have hq5 : H5 q1 = some (.lst (im.map nv)) := s5 _ _ (s4 _ _ (s3 _ _ hq))
      -- swaps
      refine ⟨_, rfl, _, rfl, by omega, by omega, fun D nD => ?_⟩
      rw [Int.toNat_natCast]
      refine lc_range (lo := 0) (n := n) (fun i H6 => Same H5 H6 ∧ H6 D = some (.lst (((List.range i).filter fun p => decide (ap im (ap im p) ≠ p)).map nv))) ⟨same_upd nD, upd_same⟩ ?_ ?_
      · rintro i H6 hi ⟨s6, hD⟩
        rw [Int.zero_add]
        refine ⟨rfl, ?_⟩
        have h1 : i < im.length := by omega
        have h2 : ap im i < im.length := PM.lt i h1
        refine ⟨_, rfl, _, rfl, _, rfl, q1, _, _, _, rfl, rfl, SqL.of (s6 _ _ hq5), atI_nat (nv_get (ap_get h1)), q1, _, _, _, rfl, rfl, SqL.of (s6 _ _ hq5), atI_nat (nv_get (ap_get h2)), _, rfl, rfl, _, rfl, ?_⟩
        have e3 : (!decide (nv (ap im (ap im i)) = V.int (i : Nat))) = decide (ap im (ap im i) ≠ i) := dec_nn _ _
        rw [e3, List.range_succ, List.filter_append]
        by_cases c : ap im (ap im i) ≠ i
        · refine decT c ⟨_, rfl, _, hD, small64 (by rw [List.length_map]; have := List.length_filter_le (fun p => decide (ap im (ap im p) ≠ p)) (List.range i); rw [List.length_range] at this; omega), mutS s6 nD, ?_⟩
          rw [upd_same, List.filter_cons_of_pos (by rw [decide_eq_true c]), List.map_append]
          rfl
        · refine decF c ⟨s6, ?_⟩
          rw [List.filter_cons_of_neg (by rw [decide_eq_false c]; decide), List.filter_nil, List.append_nil]
          exact hD
      · rintro H6 ⟨s6, hD⟩
        refine ⟨Nat.zero_le _, fun e1 ne1 => ?_⟩
        refine ⟨_, _, dpI (l := (List.range n).filter fun p => decide (ap im (ap im p) ≠ p)) (SqL.of (same_upd ne1 _ _ hD)), dpI (l := []) (SqL.of upd_same), shI _, shI _, ?_⟩
        rw [eqI, filter_none]
        have es : ((List.range n).all fun x => !decide (ap im (ap im x) ≠ x)) = swB im := by
          unfold swB
          rw [hn]
          congr 1
          funext x
          by_cases c : ap im (ap im x) = x <;> simp [c]
        rw [es]
        have s7 : Same H5 (upd H6 e1 (.lst [])) := s6.trans (same_upd ne1)
        -- mirror
        have rest : ∀ H8, Same H5 H8 → tSeq (tAsg (tLst (tCons (tMeth C "is_swaps" (spSwaps C) [] E0 (tVar 4) tNil) (tCons (tMeth C "is_mirror" (spMirror C) [] E0 (tVar 4) tNil) tNil))) (gName 10))
            (tRet (tAndV (tOp (rEqD K) (tVar 10) (tLst (tCons (tVar 8) (tCons (tVar 9) tNil)))) (tOp (rEqD K) (tLc (iList K (tVar 10)) (gName 12) (tNot (fun σ H Q => tCB (rIsi K) (tCons (tVar 12) (tCons (tC (.ty "bool")) tNil)) σ H fun x H1 => ∃ k, TruV K x H1 k ∧ Q k H1)) (tVar 12) [12]) (tLst tNil))))
            { nx := fun _ H' => Q .non H', rt := Q } [some (.ref a), some (.ref p), some (nv n), some (.ref q1), some (.ref x), some (nv (lcmTo (rings (ap im) im.length))), v6, some (nv (lcmTo (rings (ap im) im.length))), some (.bl (swB im)), some (.bl (swB im && mvB im)), none, none, none] H8 := fun H8 s8 => by
          have hW8 : WireAt C H8 x im := hW4.mono (s5.trans s8)
          refine ⟨_, rfl, x, dx, _, rfl, s8 _ _ (s5 _ _ (s4 _ _ hx)), wF_no _ _ (by decide +kernel) (by decide +kernel), x, im, rfl, hW8, hI, by omega, fun H9 s9 => ?_⟩
          refine ⟨_, rfl, x, dx, _, rfl, s9 _ _ (s8 _ _ (s5 _ _ (s4 _ _ hx))), wF_no _ _ (by decide +kernel) (by decide +kernel), x, im, rfl, hW8.mono s9, hI, by omega, fun H10 s10 => ?_⟩
          refine ⟨by show 2 ≤ sizeLine; decide, fun tl ntl => ?_⟩
          -- told == [swaps, mirror]
          refine ⟨_, rfl, _, rfl, _, rfl, by show 2 ≤ sizeLine; decide, fun t5 nt5 => ?_⟩
          have htl : (upd (upd H10 tl (.lst [.bl (swB im), .bl (swB im && mvB im)])) t5 (.lst [.bl (swB im), .bl (swB im && mvB im)])) tl = some (.lst [.bl (swB im), .bl (swB im && mvB im)]) := same_upd nt5 _ _ upd_same
          refine ⟨.list [.bool (swB im), .bool (swB im && mvB im)], .list [.bool (swB im), .bool (swB im && mvB im)], .lst (SqL.of htl) (.cons (.bl _) (.cons (.bl _) .nil)), .lst (SqL.of upd_same) (.cons (.bl _) (.cons (.bl _) .nil)), rfl, rfl, ?_⟩
          have eb : PyData.eqv (.list [.bool (swB im), .bool (swB im && mvB im)]) (.list [.bool (swB im), .bool (swB im && mvB im)]) = true := by
            cases swB im <;> cases mvB im <;> rfl
          rw [eb]
          refine ⟨_, rfl, iteT ?_⟩
          -- all of them bools
          refine ⟨_, rfl, tl, rfl, ⟨_, SqL.of htl⟩, fun D3 nD3 => ?_⟩
          refine lc_list (K := K) (a := tl) (xs := [.bl (swB im), .bl (swB im && mvB im)]) (fun i H11 => H11 = upd (upd (upd H10 tl (.lst [.bl (swB im), .bl (swB im && mvB im)])) t5 (.lst [.bl (swB im), .bl (swB im && mvB im)])) D3 (.lst [])) rfl (fun i H11 _ e => by rw [e]; exact SqL.of (same_upd nD3 _ _ htl)) ?_ ?_
          · rintro i y H11 hi rfl
            refine ⟨rfl, ?_⟩
            obtain ⟨b, rfl⟩ : ∃ b, y = V.bl b := by
              match i, hi with
              | 0, hi => exact ⟨_, (Option.some.inj hi).symm⟩
              | 1, hi => exact ⟨_, (Option.some.inj hi).symm⟩
              | i + 2, hi => simp at hi
            refine ⟨_, rfl, _, _, _, _, true, rfl, .ty _, .base (.bl _), kit_ty (by decide +kernel), true, rfl, iteF rfl⟩
          · rintro H11 rfl
            refine ⟨Nat.zero_le _, fun e3 ne3 => ?_⟩
            refine ⟨_, _, dpI (l := []) (SqL.of (same_upd ne3 _ _ upd_same)), dpI (l := []) (SqL.of upd_same), shI _, shI _, ?_⟩
            rw [eqI, decide_eq_true rfl]
            exact q _
        refine ⟨_, rfl, _, rfl, ?_⟩
        cases hs : swB im with
        | false =>
          refine iteF ?_
          have := rest _ s7
          rw [hs] at this
          exact this
        | true =>
          refine iteT ?_
          refine ⟨_, rfl, _, rfl, by omega, by omega, fun D2 nD2 => ?_⟩
          rw [Int.toNat_natCast]
          refine lc_range (lo := 0) (n := n) (fun i H8 => Same (upd H6 e1 (.lst [])) H8 ∧ H8 D2 = some (.lst (((List.range i).filter fun p => decide (ap im p = p)).map nv))) ⟨same_upd nD2, upd_same⟩ ?_ ?_
          · rintro i H8 hi ⟨s8, hD2⟩
            rw [Int.zero_add]
            refine ⟨rfl, ?_⟩
            have h1 : i < im.length := by omega
            refine ⟨_, rfl, _, rfl, q1, _, _, _, rfl, rfl, SqL.of (s8 _ _ (s7 _ _ hq5)), atI_nat (nv_get (ap_get h1)), _, rfl, rfl, _, rfl, ?_⟩
            have e3 : decide (nv (ap im i) = V.int (i : Nat)) = decide (ap im i = i) := dec_nv _ _
            rw [e3, List.range_succ, List.filter_append]
            by_cases c : ap im i = i
            · refine decT c ⟨_, rfl, _, hD2, small64 (by rw [List.length_map]; have := List.length_filter_le (fun p => decide (ap im p = p)) (List.range i); rw [List.length_range] at this; omega), mutS s8 nD2, ?_⟩
              rw [upd_same, List.filter_cons_of_pos (by rw [decide_eq_true c]), List.map_append]
              rfl
            · refine decF c ⟨s8, ?_⟩
              rw [List.filter_cons_of_neg (by rw [decide_eq_false c]; decide), List.filter_nil, List.append_nil]
              exact hD2
          · rintro H8 ⟨s8, hD2⟩
            refine ⟨Nat.zero_le _, fun e2 ne2 => ?_⟩
            refine ⟨_, _, dpI (l := (List.range n).filter fun p => decide (ap im p = p)) (SqL.of (same_upd ne2 _ _ hD2)), dpI (l := []) (SqL.of upd_same), shI _, shI _, ?_⟩
            rw [eqI, filter_none]
            have em : ((List.range n).all fun x => !decide (ap im x = x)) = mvB im := by
              unfold mvB
              rw [hn]
              congr 1
              funext x
              by_cases c : ap im x = x <;> simp [c]
            rw [em]
            have := rest (upd H8 e2 (.lst [])) (s7.trans (s8.trans (same_upd ne2)))
            rw [hs, Bool.true_and] at this
            exact this
end
theorem all_mk {l : PySem.W.OpenLaw} {w : World} {K : PySem.W.Frag} {h : Heap} {mg : Str → Option Value} {fa C_Wire f_l_cell f_l_row f_l_drawn f_l_size f_l_rings f_moves_of T_moves_of f_rings_of f_Wire_init f_Wire_rings f_Wire_order f_Wire_is_swaps f_Wire_is_mirror f_l_wire f_l_of_kind f_l_multiple f_law : Addr} (X : K.In h) (G : h.Ns mainGlobals mg) (hfa : mg "law" = some (.ref fa))
    {od_l_cell an_l_cell : Option Addr} {sl_l_cell : Array (Option Value)} {oc_l_cell kV_l_cell dc_l_cell pm_l_cell cd_l_cell ct_l_cell : Value}
    {od_l_row an_l_row : Option Addr} {sl_l_row : Array (Option Value)} {oc_l_row kV_l_row dc_l_row pm_l_row cd_l_row ct_l_row : Value}
    {od_l_drawn an_l_drawn : Option Addr} {sl_l_drawn : Array (Option Value)} {oc_l_drawn kV_l_drawn dc_l_drawn pm_l_drawn cd_l_drawn ct_l_drawn : Value}
    {od_l_size an_l_size : Option Addr} {sl_l_size : Array (Option Value)} {oc_l_size kV_l_size dc_l_size pm_l_size cd_l_size ct_l_size : Value}
    {od_l_rings an_l_rings : Option Addr} {sl_l_rings : Array (Option Value)} {oc_l_rings kV_l_rings dc_l_rings pm_l_rings cd_l_rings ct_l_rings : Value}
    {od_moves_of an_moves_of : Option Addr} {sl_moves_of : Array (Option Value)} {oc_moves_of kV_moves_of dc_moves_of pm_moves_of cd_moves_of ct_moves_of : Value}
    {oT_moves_of : Value} {dT_moves_of : Option Addr} {nT_moves_of : Nat} {sT_moves_of : Array (Option Value)}
    {od_rings_of an_rings_of : Option Addr} {sl_rings_of : Array (Option Value)} {oc_rings_of kV_rings_of dc_rings_of pm_rings_of cd_rings_of ct_rings_of : Value}
    {od_Wire_init an_Wire_init : Option Addr} {sl_Wire_init : Array (Option Value)} {oc_Wire_init kV_Wire_init dc_Wire_init pm_Wire_init cd_Wire_init ct_Wire_init : Value}
    {od_Wire_rings an_Wire_rings : Option Addr} {sl_Wire_rings : Array (Option Value)} {oc_Wire_rings kV_Wire_rings dc_Wire_rings pm_Wire_rings cd_Wire_rings ct_Wire_rings : Value}
    {od_Wire_order an_Wire_order : Option Addr} {sl_Wire_order : Array (Option Value)} {oc_Wire_order kV_Wire_order dc_Wire_order pm_Wire_order cd_Wire_order ct_Wire_order : Value}
    {od_Wire_is_swaps an_Wire_is_swaps : Option Addr} {sl_Wire_is_swaps : Array (Option Value)} {oc_Wire_is_swaps kV_Wire_is_swaps dc_Wire_is_swaps pm_Wire_is_swaps cd_Wire_is_swaps ct_Wire_is_swaps : Value}
    {od_Wire_is_mirror an_Wire_is_mirror : Option Addr} {sl_Wire_is_mirror : Array (Option Value)} {oc_Wire_is_mirror kV_Wire_is_mirror dc_Wire_is_mirror pm_Wire_is_mirror cd_Wire_is_mirror ct_Wire_is_mirror : Value}
    {od_l_wire an_l_wire : Option Addr} {sl_l_wire : Array (Option Value)} {oc_l_wire kV_l_wire dc_l_wire pm_l_wire cd_l_wire ct_l_wire : Value}
    {od_l_of_kind an_l_of_kind : Option Addr} {sl_l_of_kind : Array (Option Value)} {oc_l_of_kind kV_l_of_kind dc_l_of_kind pm_l_of_kind cd_l_of_kind ct_l_of_kind : Value}
    {od_l_multiple an_l_multiple : Option Addr} {sl_l_multiple : Array (Option Value)} {oc_l_multiple kV_l_multiple dc_l_multiple pm_l_multiple cd_l_multiple ct_l_multiple : Value}
    {od_law an_law : Option Addr} {sl_law : Array (Option Value)} {oc_law kV_law dc_law pm_law cd_law ct_law : Value}
    (g_Wire : PySem.W.nsIn K mainGlobals "Wire" = some (some (.ref C_Wire)))
    (pg_Wire : PySem.W.plainGet K C_Wire Str.empty = true)
    (hd_Wire : PySem.W.hasDictIn K C_Wire = true)
    (po_Wire : PySem.W.plainOver K C_Wire = true)
    (sa_Wire : PySem.W.findIn K (.ref C_Wire) "__setattr__" = some (some (.builtin "object.__setattr__")))
    (mk_Wire : PySem.W.makesIn K C_Wire = true)
    (kc_Wire : PySem.W.keepIn K (.ref C_Wire) = true)
    (n_Wire_size : PySem.W.findIn K (.ref C_Wire) "size" = some none)
    (n_Wire__images : PySem.W.findIn K (.ref C_Wire) "_images" = some none)
    (z_len : PySem.W.nsIn K mainGlobals "len" = some none)
    (z_range : PySem.W.nsIn K mainGlobals "range" = some none)
    (z_int : PySem.W.nsIn K mainGlobals "int" = some none)
    (z_list : PySem.W.nsIn K mainGlobals "list" = some none)
    (z_enumerate : PySem.W.nsIn K mainGlobals "enumerate" = some none)
    (z_dict : PySem.W.nsIn K mainGlobals "dict" = some none)
    (z_zip : PySem.W.nsIn K mainGlobals "zip" = some none)
    (z_set : PySem.W.nsIn K mainGlobals "set" = some none)
    (z_sorted : PySem.W.nsIn K mainGlobals "sorted" = some none)
    (z_all : PySem.W.nsIn K mainGlobals "all" = some none)
    (z_abs : PySem.W.nsIn K mainGlobals "abs" = some none)
    (z_isinstance : PySem.W.nsIn K mainGlobals "isinstance" = some none)
    (z_bool : PySem.W.nsIn K mainGlobals "bool" = some none)
    (v_lcm : PySem.W.nsIn K mainGlobals "lcm" = some (some (.builtin "math.lcm")))
    (a_l_cell : PySem.W.nsIn K mainGlobals "_law_cell" = some (some (.ref f_l_cell)))
    (l_l_cell : K.lookup f_l_cell = some ⟨oc_l_cell, od_l_cell, .func (PySem.W.fnOf "_law_cell" "_law_cell" (defArgs s_l_cell) (defBody s_l_cell) (defScope s_l_cell) .none kV_l_cell dc_l_cell pm_l_cell an_l_cell cd_l_cell ct_l_cell), sl_l_cell⟩)
    (c_l_cell : PySem.W.codeIn K cd_l_cell "_law_cell" = true)
    (k_l_cell : PySem.W.keepIn K (.ref f_l_cell) = true)
    (a_l_row : PySem.W.nsIn K mainGlobals "_law_row" = some (some (.ref f_l_row)))
    (l_l_row : K.lookup f_l_row = some ⟨oc_l_row, od_l_row, .func (PySem.W.fnOf "_law_row" "_law_row" (defArgs s_l_row) (defBody s_l_row) (defScope s_l_row) .none kV_l_row dc_l_row pm_l_row an_l_row cd_l_row ct_l_row), sl_l_row⟩)
    (c_l_row : PySem.W.codeIn K cd_l_row "_law_row" = true)
    (k_l_row : PySem.W.keepIn K (.ref f_l_row) = true)
    (a_l_drawn : PySem.W.nsIn K mainGlobals "_law_drawn" = some (some (.ref f_l_drawn)))
    (l_l_drawn : K.lookup f_l_drawn = some ⟨oc_l_drawn, od_l_drawn, .func (PySem.W.fnOf "_law_drawn" "_law_drawn" (defArgs s_l_drawn) (defBody s_l_drawn) (defScope s_l_drawn) .none kV_l_drawn dc_l_drawn pm_l_drawn an_l_drawn cd_l_drawn ct_l_drawn), sl_l_drawn⟩)
    (c_l_drawn : PySem.W.codeIn K cd_l_drawn "_law_drawn" = true)
    (k_l_drawn : PySem.W.keepIn K (.ref f_l_drawn) = true)
    (a_l_size : PySem.W.nsIn K mainGlobals "_law_size" = some (some (.ref f_l_size)))
    (l_l_size : K.lookup f_l_size = some ⟨oc_l_size, od_l_size, .func (PySem.W.fnOf "_law_size" "_law_size" (defArgs s_l_size) (defBody s_l_size) (defScope s_l_size) .none kV_l_size dc_l_size pm_l_size an_l_size cd_l_size ct_l_size), sl_l_size⟩)
    (c_l_size : PySem.W.codeIn K cd_l_size "_law_size" = true)
    (k_l_size : PySem.W.keepIn K (.ref f_l_size) = true)
    (a_l_rings : PySem.W.nsIn K mainGlobals "_law_rings" = some (some (.ref f_l_rings)))
    (l_l_rings : K.lookup f_l_rings = some ⟨oc_l_rings, od_l_rings, .func (PySem.W.fnOf "_law_rings" "_law_rings" (defArgs s_l_rings) (defBody s_l_rings) (defScope s_l_rings) .none kV_l_rings dc_l_rings pm_l_rings an_l_rings cd_l_rings ct_l_rings), sl_l_rings⟩)
    (c_l_rings : PySem.W.codeIn K cd_l_rings "_law_rings" = true)
    (k_l_rings : PySem.W.keepIn K (.ref f_l_rings) = true)
    (a_moves_of : PySem.W.nsIn K mainGlobals "moves_of" = some (some (.ref f_moves_of)))
    (l_moves_of : K.lookup f_moves_of = some ⟨oc_moves_of, od_moves_of, .func (PySem.W.fnOf "moves_of" "moves_of" (defArgs s_moves_of) (defBody s_moves_of) (defScope s_moves_of) (.ref T_moves_of) kV_moves_of dc_moves_of pm_moves_of an_moves_of cd_moves_of ct_moves_of), sl_moves_of⟩)
    (lT_moves_of : K.lookup T_moves_of = some ⟨oT_moves_of, dT_moves_of, .seq #[.none] nT_moves_of, sT_moves_of⟩)
    (c_moves_of : PySem.W.codeIn K cd_moves_of "moves_of" = true)
    (k_moves_of : PySem.W.keepIn K (.ref f_moves_of) = true)
    (a_rings_of : PySem.W.nsIn K mainGlobals "rings_of" = some (some (.ref f_rings_of)))
    (l_rings_of : K.lookup f_rings_of = some ⟨oc_rings_of, od_rings_of, .func (PySem.W.fnOf "rings_of" "rings_of" (defArgs s_rings_of) (defBody s_rings_of) (defScope s_rings_of) .none kV_rings_of dc_rings_of pm_rings_of an_rings_of cd_rings_of ct_rings_of), sl_rings_of⟩)
    (c_rings_of : PySem.W.codeIn K cd_rings_of "rings_of" = true)
    (k_rings_of : PySem.W.keepIn K (.ref f_rings_of) = true)
    (a_Wire_init : PySem.W.findIn K (.ref C_Wire) "__init__" = some (some (.ref f_Wire_init)))
    (i_Wire_init : PySem.W.isFn K (.ref f_Wire_init) = true)
    (l_Wire_init : K.lookup f_Wire_init = some ⟨oc_Wire_init, od_Wire_init, .func (PySem.W.fnOf "__init__" "Wire.__init__" (defArgs s_Wire_init) (defBody s_Wire_init) (defScope s_Wire_init) .none kV_Wire_init dc_Wire_init pm_Wire_init an_Wire_init cd_Wire_init ct_Wire_init), sl_Wire_init⟩)
    (c_Wire_init : PySem.W.codeIn K cd_Wire_init "Wire.__init__" = true)
    (k_Wire_init : PySem.W.keepIn K (.ref f_Wire_init) = true)
    (a_Wire_rings : PySem.W.findIn K (.ref C_Wire) "rings" = some (some (.ref f_Wire_rings)))
    (i_Wire_rings : PySem.W.isFn K (.ref f_Wire_rings) = true)
    (l_Wire_rings : K.lookup f_Wire_rings = some ⟨oc_Wire_rings, od_Wire_rings, .func (PySem.W.fnOf "rings" "Wire.rings" (defArgs s_Wire_rings) (defBody s_Wire_rings) (defScope s_Wire_rings) .none kV_Wire_rings dc_Wire_rings pm_Wire_rings an_Wire_rings cd_Wire_rings ct_Wire_rings), sl_Wire_rings⟩)
    (c_Wire_rings : PySem.W.codeIn K cd_Wire_rings "Wire.rings" = true)
    (k_Wire_rings : PySem.W.keepIn K (.ref f_Wire_rings) = true)
    (a_Wire_order : PySem.W.findIn K (.ref C_Wire) "order" = some (some (.ref f_Wire_order)))
    (i_Wire_order : PySem.W.isFn K (.ref f_Wire_order) = true)
    (l_Wire_order : K.lookup f_Wire_order = some ⟨oc_Wire_order, od_Wire_order, .func (PySem.W.fnOf "order" "Wire.order" (defArgs s_Wire_order) (defBody s_Wire_order) (defScope s_Wire_order) .none kV_Wire_order dc_Wire_order pm_Wire_order an_Wire_order cd_Wire_order ct_Wire_order), sl_Wire_order⟩)
    (c_Wire_order : PySem.W.codeIn K cd_Wire_order "Wire.order" = true)
    (k_Wire_order : PySem.W.keepIn K (.ref f_Wire_order) = true)
    (a_Wire_is_swaps : PySem.W.findIn K (.ref C_Wire) "is_swaps" = some (some (.ref f_Wire_is_swaps)))
    (i_Wire_is_swaps : PySem.W.isFn K (.ref f_Wire_is_swaps) = true)
    (l_Wire_is_swaps : K.lookup f_Wire_is_swaps = some ⟨oc_Wire_is_swaps, od_Wire_is_swaps, .func (PySem.W.fnOf "is_swaps" "Wire.is_swaps" (defArgs s_Wire_is_swaps) (defBody s_Wire_is_swaps) (defScope s_Wire_is_swaps) .none kV_Wire_is_swaps dc_Wire_is_swaps pm_Wire_is_swaps an_Wire_is_swaps cd_Wire_is_swaps ct_Wire_is_swaps), sl_Wire_is_swaps⟩)
    (c_Wire_is_swaps : PySem.W.codeIn K cd_Wire_is_swaps "Wire.is_swaps" = true)
    (k_Wire_is_swaps : PySem.W.keepIn K (.ref f_Wire_is_swaps) = true)
    (a_Wire_is_mirror : PySem.W.findIn K (.ref C_Wire) "is_mirror" = some (some (.ref f_Wire_is_mirror)))
    (i_Wire_is_mirror : PySem.W.isFn K (.ref f_Wire_is_mirror) = true)
    (l_Wire_is_mirror : K.lookup f_Wire_is_mirror = some ⟨oc_Wire_is_mirror, od_Wire_is_mirror, .func (PySem.W.fnOf "is_mirror" "Wire.is_mirror" (defArgs s_Wire_is_mirror) (defBody s_Wire_is_mirror) (defScope s_Wire_is_mirror) .none kV_Wire_is_mirror dc_Wire_is_mirror pm_Wire_is_mirror an_Wire_is_mirror cd_Wire_is_mirror ct_Wire_is_mirror), sl_Wire_is_mirror⟩)
    (c_Wire_is_mirror : PySem.W.codeIn K cd_Wire_is_mirror "Wire.is_mirror" = true)
    (k_Wire_is_mirror : PySem.W.keepIn K (.ref f_Wire_is_mirror) = true)
    (a_l_wire : PySem.W.nsIn K mainGlobals "_law_wire" = some (some (.ref f_l_wire)))
    (l_l_wire : K.lookup f_l_wire = some ⟨oc_l_wire, od_l_wire, .func (PySem.W.fnOf "_law_wire" "_law_wire" (defArgs s_l_wire) (defBody s_l_wire) (defScope s_l_wire) .none kV_l_wire dc_l_wire pm_l_wire an_l_wire cd_l_wire ct_l_wire), sl_l_wire⟩)
    (c_l_wire : PySem.W.codeIn K cd_l_wire "_law_wire" = true)
    (k_l_wire : PySem.W.keepIn K (.ref f_l_wire) = true)
    (a_l_of_kind : PySem.W.nsIn K mainGlobals "_law_of_kind" = some (some (.ref f_l_of_kind)))
    (l_l_of_kind : K.lookup f_l_of_kind = some ⟨oc_l_of_kind, od_l_of_kind, .func (PySem.W.fnOf "_law_of_kind" "_law_of_kind" (defArgs s_l_of_kind) (defBody s_l_of_kind) (defScope s_l_of_kind) .none kV_l_of_kind dc_l_of_kind pm_l_of_kind an_l_of_kind cd_l_of_kind ct_l_of_kind), sl_l_of_kind⟩)
    (c_l_of_kind : PySem.W.codeIn K cd_l_of_kind "_law_of_kind" = true)
    (k_l_of_kind : PySem.W.keepIn K (.ref f_l_of_kind) = true)
    (a_l_multiple : PySem.W.nsIn K mainGlobals "_law_multiple" = some (some (.ref f_l_multiple)))
    (l_l_multiple : K.lookup f_l_multiple = some ⟨oc_l_multiple, od_l_multiple, .func (PySem.W.fnOf "_law_multiple" "_law_multiple" (defArgs s_l_multiple) (defBody s_l_multiple) (defScope s_l_multiple) .none kV_l_multiple dc_l_multiple pm_l_multiple an_l_multiple cd_l_multiple ct_l_multiple), sl_l_multiple⟩)
    (c_l_multiple : PySem.W.codeIn K cd_l_multiple "_law_multiple" = true)
    (k_l_multiple : PySem.W.keepIn K (.ref f_l_multiple) = true)
    (a_law : PySem.W.nsIn K mainGlobals "law" = some (some (.ref f_law)))
    (l_law : K.lookup f_law = some ⟨oc_law, od_law, .func (PySem.W.fnOf "law" "law" (defArgs s_law) (defBody s_law) (defScope s_law) .none kV_law dc_law pm_law an_law cd_law ct_law), sl_law⟩)
    (c_law : PySem.W.codeIn K cd_law "law" = true)
    (k_law : PySem.W.keepIn K (.ref f_law) = true)
    : ∃ fd : FuncData, (∀ (s : Shared) (v : Value), BindsTo s fd ⟨[v], []⟩ [("_law_script", v)]) ∧ ∀ base : Heap, K.In base → base.Ns mainGlobals mg → FnOk l.prog w K mg base CX0 5 fa fd ["_law_script"] (spLaw K) := by
  have e := hfa.symm.trans (PySem.W.mg_of X G a_law)
  cases e
  have F_l_cell := fun_mk (st := s_l_cell) l_l_cell c_l_cell k_l_cell
  have b_l_cell := F_l_cell.binds (ps := ["_law_script", "_law_k"]) fun _ _ _ _ _ _ us hl => match us, hl with | [_, _], _ => rfl
  have F_l_row := fun_mk (st := s_l_row) l_l_row c_l_row k_l_row
  have b_l_row := F_l_row.binds (ps := ["_law_cell_here", "_law_sizes"]) fun _ _ _ _ _ _ us hl => match us, hl with | [_, _], _ => rfl
  have F_l_drawn := fun_mk (st := s_l_drawn) l_l_drawn c_l_drawn k_l_drawn
  have b_l_drawn := F_l_drawn.binds (ps := ["_law_cell_here", "_law_n"]) fun _ _ _ _ _ _ us hl => match us, hl with | [_, _], _ => rfl
  have F_l_size := fun_mk (st := s_l_size) l_l_size c_l_size k_l_size
  have b_l_size := F_l_size.binds (ps := ["_law_draw"]) fun _ _ _ _ _ _ us hl => match us, hl with | [_], _ => rfl
  have F_l_rings := fun_mk (st := s_l_rings) l_l_rings c_l_rings k_l_rings
  have b_l_rings := F_l_rings.binds (ps := ["_law_images"]) fun _ _ _ _ _ _ us hl => match us, hl with | [_], _ => rfl
  have F_moves_of : FunD K "moves_of" "moves_of" (defArgs s_moves_of) (defBody s_moves_of) (defScope s_moves_of) [.non] [] f_moves_of _ := ⟨⟨_, _, _, _, _, _, _, _, _, _, rfl, l_moves_of, c_moves_of, .inr ⟨by simp, _, _, [.none], _, rfl, lT_moves_of, rfl, .cons rfl .nil⟩, .inl rfl⟩, k_moves_of⟩
  obtain ⟨ds_moves_of, vd_moves_of, b_moves_of⟩ := F_moves_of.binds1 (ps := ["rings", "size"]) 2 1 (by simp) rfl fun _ _ _ _ _ _ _ us its h1 h2 => match us, its, h1, h2 with | [_, _], [_], _, _ => ⟨_, rfl, rfl⟩
  have F_rings_of := fun_mk (st := s_rings_of) l_rings_of c_rings_of k_rings_of
  have b_rings_of := F_rings_of.binds (ps := ["moves"]) fun _ _ _ _ _ _ us hl => match us, hl with | [_], _ => rfl
  have F_Wire_init := fun_mk (st := s_Wire_init) l_Wire_init c_Wire_init k_Wire_init
  have b_Wire_init := F_Wire_init.binds (ps := ["self", "size", "rings"]) fun _ _ _ _ _ _ us hl => match us, hl with | [_, _, _], _ => rfl
  have F_Wire_rings := fun_mk (st := s_Wire_rings) l_Wire_rings c_Wire_rings k_Wire_rings
  have b_Wire_rings := F_Wire_rings.binds (ps := ["self"]) fun _ _ _ _ _ _ us hl => match us, hl with | [_], _ => rfl
  have F_Wire_order := fun_mk (st := s_Wire_order) l_Wire_order c_Wire_order k_Wire_order
  have b_Wire_order := F_Wire_order.binds (ps := ["self"]) fun _ _ _ _ _ _ us hl => match us, hl with | [_], _ => rfl
  have F_Wire_is_swaps := fun_mk (st := s_Wire_is_swaps) l_Wire_is_swaps c_Wire_is_swaps k_Wire_is_swaps
  have b_Wire_is_swaps := F_Wire_is_swaps.binds (ps := ["self"]) fun _ _ _ _ _ _ us hl => match us, hl with | [_], _ => rfl
  have F_Wire_is_mirror := fun_mk (st := s_Wire_is_mirror) l_Wire_is_mirror c_Wire_is_mirror k_Wire_is_mirror
  have b_Wire_is_mirror := F_Wire_is_mirror.binds (ps := ["self"]) fun _ _ _ _ _ _ us hl => match us, hl with | [_], _ => rfl
  have F_l_wire := fun_mk (st := s_l_wire) l_l_wire c_l_wire k_l_wire
  have b_l_wire := F_l_wire.binds (ps := ["_law_images"]) fun _ _ _ _ _ _ us hl => match us, hl with | [_], _ => rfl
  have F_l_of_kind := fun_mk (st := s_l_of_kind) l_l_of_kind c_l_of_kind k_l_of_kind
  have b_l_of_kind := F_l_of_kind.binds (ps := ["_law_kind", "_law_bound", "_law_cell_here", "_law_n", "_law_draw"]) fun _ _ _ _ _ _ us hl => match us, hl with | [_, _, _, _, _], _ => rfl
  have F_l_multiple := fun_mk (st := s_l_multiple) l_l_multiple c_l_multiple k_l_multiple
  have b_l_multiple := F_l_multiple.binds (ps := ["_law_a", "_law_b"]) fun _ _ _ _ _ _ us hl => match us, hl with | [_, _], _ => rfl
  have F_law := fun_mk (st := s_law) l_law c_law k_law
  refine ⟨PySem.W.fnOf "law" "law" (defArgs s_law) (defBody s_law) (defScope s_law) .none kV_law dc_law pm_law an_law cd_law ct_law, fun s v => .of_eq rfl, fun base hb1 hb2 => ?_⟩
  have N := fun {x : Str} (z : PySem.W.nsIn K mainGlobals x = some none) => PySem.W.mg_none_of X G z
  have B : Blt mg := ⟨N z_len, N z_range, N z_int, N z_list, N z_enumerate, N z_dict, N z_zip, N z_set, N z_sorted, N z_all, N z_abs, N z_isinstance, N z_bool⟩
  have cl : Cls K C_Wire := ⟨pg_Wire, hd_Wire, po_Wire, sa_Wire⟩
  have W : WTxt K C_Wire := ⟨cl, n_Wire_size, n_Wire__images⟩
  have T : BltC K mg C_Wire := { toBlt := B, cl := cl }
  have D_l_cell : DefOk l.prog w K mg base CX0 1 "_law_cell" ["_law_script", "_law_k"] [] (spCell K) := ⟨_, _, [], PySem.W.mg_of X G a_l_cell, k_l_cell, b_l_cell, .nil, ok_cell F_l_cell B⟩
  have D_l_row : DefOk l.prog w K mg base CX0 1 "_law_row" ["_law_cell_here", "_law_sizes"] [] (spRow K) := ⟨_, _, [], PySem.W.mg_of X G a_l_row, k_l_row, b_l_row, .nil, ok_row F_l_row B⟩
  have D_l_drawn : DefOk l.prog w K mg base CX0 2 "_law_drawn" ["_law_cell_here", "_law_n"] [] spDrawn := ⟨_, _, [], PySem.W.mg_of X G a_l_drawn, k_l_drawn, b_l_drawn, .nil, ok_drawn F_l_drawn B D_l_row⟩
  have D_l_size : DefOk l.prog w K mg base CX0 1 "_law_size" ["_law_draw"] [] spSize := ⟨_, _, [], PySem.W.mg_of X G a_l_size, k_l_size, b_l_size, .nil, ok_size F_l_size⟩
  have D_l_rings : DefOk l.prog w K mg base CX0 1 "_law_rings" ["_law_images"] [] (spRings K) := ⟨_, _, [], PySem.W.mg_of X G a_l_rings, k_l_rings, b_l_rings, .nil, ok_l_rings F_l_rings B⟩
  have D_moves_of : DefOk l.prog w K mg base CX0 1 "moves_of" ["rings", "size"] [] (spMoves K) := ⟨_, _, ds_moves_of, PySem.W.mg_of X G a_moves_of, k_moves_of, b_moves_of, vd_moves_of, ok_moves_of F_moves_of B⟩
  have D_rings_of : DefOk l.prog w K mg base CX0 1 "rings_of" ["moves"] [] spRingsOf := ⟨_, _, [], PySem.W.mg_of X G a_rings_of, k_rings_of, b_rings_of, .nil, ok_rings_of F_rings_of B⟩
  have M_Wire : MakeOk l.prog w K mg base CX0 2 C_Wire "Wire" ["self", "size", "rings"] [] (spInit K C_Wire) := ⟨PySem.W.mg_of X G g_Wire, _, _, [], ⟨mk_Wire, a_Wire_init, i_Wire_init, kc_Wire⟩, b_Wire_init, .nil, ok_Wire_init F_Wire_init B W D_moves_of⟩
  have D_Wire_rings : MethOk l.prog w K mg base CX0 2 C_Wire "rings" ["self"] [] (spWRings C_Wire) := ⟨_, _, [], ⟨a_Wire_rings, i_Wire_rings, k_Wire_rings⟩, b_Wire_rings, .nil, ok_Wire_rings F_Wire_rings B W D_rings_of⟩
  have D_Wire_order : MethOk l.prog w K mg base CX0 3 C_Wire "order" ["self"] [] (spOrder C_Wire) := ⟨_, _, [], ⟨a_Wire_order, i_Wire_order, k_Wire_order⟩, b_Wire_order, .nil, ok_Wire_order F_Wire_order B W (PySem.W.mg_of X G v_lcm) D_Wire_rings⟩
  have D_Wire_is_swaps : MethOk l.prog w K mg base CX0 1 C_Wire "is_swaps" ["self"] [] (spSwaps C_Wire) := ⟨_, _, [], ⟨a_Wire_is_swaps, i_Wire_is_swaps, k_Wire_is_swaps⟩, b_Wire_is_swaps, .nil, ok_Wire_is_swaps F_Wire_is_swaps B W⟩
  have D_Wire_is_mirror : MethOk l.prog w K mg base CX0 2 C_Wire "is_mirror" ["self"] [] (spMirror C_Wire) := ⟨_, _, [], ⟨a_Wire_is_mirror, i_Wire_is_mirror, k_Wire_is_mirror⟩, b_Wire_is_mirror, .nil, ok_Wire_is_mirror F_Wire_is_mirror B W D_Wire_is_swaps⟩
  have D_l_wire : DefOk l.prog w K mg base CX0 4 "_law_wire" ["_law_images"] [] (spLWire K C_Wire) := ⟨_, _, [], PySem.W.mg_of X G a_l_wire, k_l_wire, b_l_wire, .nil, ok_l_wire F_l_wire B M_Wire D_l_rings⟩
  have D_l_of_kind : DefOk l.prog w K mg base CX0 3 "_law_of_kind" ["_law_kind", "_law_bound", "_law_cell_here", "_law_n", "_law_draw"] [] spKind := ⟨_, _, [], PySem.W.mg_of X G a_l_of_kind, k_l_of_kind, b_l_of_kind, .nil, ok_l_of_kind F_l_of_kind B D_l_drawn⟩
  have D_l_multiple : DefOk l.prog w K mg base CX0 1 "_law_multiple" ["_law_a", "_law_b"] [] spMult := ⟨_, _, [], PySem.W.mg_of X G a_l_multiple, k_l_multiple, b_l_multiple, .nil, ok_l_multiple F_l_multiple B⟩
  exact ok_law F_law T D_l_cell D_l_row D_l_size D_l_of_kind D_l_wire D_l_rings D_l_multiple D_Wire_order D_Wire_is_swaps D_Wire_is_mirror

end TW
open PySem PySem.W PyProof.Rows
set_option maxRecDepth 100000 in
set_option maxHeartbeats 0 in
theorem PySem.Challenge.cw_turnwires_k04_orders_and_kinds_of_wires_holds : PySem.Challenge.rw_turnwires_k04_orders_and_kinds_of_wires.Holds := by
  w_on; o_law; k_head; (case hw => w_witness2)
  k_fill
  refine L2.walk_of (l := PySem.Challenge.rw_turnwires_k04_orders_and_kinds_of_wires) (n := 63) (k := 5) (x := "_law_script") (CX := fun w => L2.CX0) (sp := fun w => TW.spLaw _) rfl (by decide) rfl ⟨rfl, by decide, by decide⟩ (fun w h Y => PySem.W.kIn_of Y) ?F (fun _ _ a ns hl _ hS => ⟨a, ns, rfl, hS, hl, fun _ => rfl⟩) (fun _ _ _ _ _ h => h)
  case F =>
    intro w mg fa h KX G hmg
    refine' TW.all_mk KX G hmg ?g_Wire ?pg_Wire ?hd_Wire ?po_Wire ?sa_Wire ?mk_Wire ?kc_Wire ?n_Wire_size ?n_Wire__images ?z_len ?z_range ?z_int ?z_list ?z_enumerate ?z_dict ?z_zip ?z_set ?z_sorted ?z_all ?z_abs ?z_isinstance ?z_bool ?v_lcm ?a_l_cell ?l_l_cell ?c_l_cell ?k_l_cell ?a_l_row ?l_l_row ?c_l_row ?k_l_row ?a_l_drawn ?l_l_drawn ?c_l_drawn ?k_l_drawn ?a_l_size ?l_l_size ?c_l_size ?k_l_size ?a_l_rings ?l_l_rings ?c_l_rings ?k_l_rings ?a_moves_of ?l_moves_of ?lT_moves_of ?c_moves_of ?k_moves_of ?a_rings_of ?l_rings_of ?c_rings_of ?k_rings_of ?a_Wire_init ?i_Wire_init ?l_Wire_init ?c_Wire_init ?k_Wire_init ?a_Wire_rings ?i_Wire_rings ?l_Wire_rings ?c_Wire_rings ?k_Wire_rings ?a_Wire_order ?i_Wire_order ?l_Wire_order ?c_Wire_order ?k_Wire_order ?a_Wire_is_swaps ?i_Wire_is_swaps ?l_Wire_is_swaps ?c_Wire_is_swaps ?k_Wire_is_swaps ?a_Wire_is_mirror ?i_Wire_is_mirror ?l_Wire_is_mirror ?c_Wire_is_mirror ?k_Wire_is_mirror ?a_l_wire ?l_l_wire ?c_l_wire ?k_l_wire ?a_l_of_kind ?l_l_of_kind ?c_l_of_kind ?k_l_of_kind ?a_l_multiple ?l_l_multiple ?c_l_multiple ?k_l_multiple ?a_law ?l_law ?c_law ?k_law
    (case g_Wire => k_is)
    (case pg_Wire => k_is)
    (case hd_Wire => k_is)
    (case po_Wire => k_is)
    (case sa_Wire => k_is)
    (case mk_Wire => k_is)
    (case kc_Wire => k_is)
    (case n_Wire_size => k_is)
    (case n_Wire__images => k_is)
    (case z_len => k_is)
    (case z_range => k_is)
    (case z_int => k_is)
    (case z_list => k_is)
    (case z_enumerate => k_is)
    (case z_dict => k_is)
    (case z_zip => k_is)
    (case z_set => k_is)
    (case z_sorted => k_is)
    (case z_all => k_is)
    (case z_abs => k_is)
    (case z_isinstance => k_is)
    (case z_bool => k_is)
    (case v_lcm => k_is)
    (case a_l_cell => k_is)
    (case l_l_cell => k_is)
    (case c_l_cell => k_is)
    (case k_l_cell => k_is)
    (case a_l_row => k_is)
    (case l_l_row => k_is)
    (case c_l_row => k_is)
    (case k_l_row => k_is)
    (case a_l_drawn => k_is)
    (case l_l_drawn => k_is)
    (case c_l_drawn => k_is)
    (case k_l_drawn => k_is)
    (case a_l_size => k_is)
    (case l_l_size => k_is)
    (case c_l_size => k_is)
    (case k_l_size => k_is)
    (case a_l_rings => k_is)
    (case l_l_rings => k_is)
    (case c_l_rings => k_is)
    (case k_l_rings => k_is)
    (case a_moves_of => k_is)
    (case l_moves_of => k_is)
    (case lT_moves_of => k_is)
    (case c_moves_of => k_is)
    (case k_moves_of => k_is)
    (case a_rings_of => k_is)
    (case l_rings_of => k_is)
    (case c_rings_of => k_is)
    (case k_rings_of => k_is)
    (case a_Wire_init => k_is)
    (case i_Wire_init => k_is)
    (case l_Wire_init => k_is)
    (case c_Wire_init => k_is)
    (case k_Wire_init => k_is)
    (case a_Wire_rings => k_is)
    (case i_Wire_rings => k_is)
    (case l_Wire_rings => k_is)
    (case c_Wire_rings => k_is)
    (case k_Wire_rings => k_is)
    (case a_Wire_order => k_is)
    (case i_Wire_order => k_is)
    (case l_Wire_order => k_is)
    (case c_Wire_order => k_is)
    (case k_Wire_order => k_is)
    (case a_Wire_is_swaps => k_is)
    (case i_Wire_is_swaps => k_is)
    (case l_Wire_is_swaps => k_is)
    (case c_Wire_is_swaps => k_is)
    (case k_Wire_is_swaps => k_is)
    (case a_Wire_is_mirror => k_is)
    (case i_Wire_is_mirror => k_is)
    (case l_Wire_is_mirror => k_is)
    (case c_Wire_is_mirror => k_is)
    (case k_Wire_is_mirror => k_is)
    (case a_l_wire => k_is)
    (case l_l_wire => k_is)
    (case c_l_wire => k_is)
    (case k_l_wire => k_is)
    (case a_l_of_kind => k_is)
    (case l_l_of_kind => k_is)
    (case c_l_of_kind => k_is)
    (case k_l_of_kind => k_is)
    (case a_l_multiple => k_is)
    (case l_l_multiple => k_is)
    (case c_l_multiple => k_is)
    (case k_l_multiple => k_is)
    (case a_law => k_is)
    (case l_law => k_is)
    (case c_law => k_is)
    (case k_law => k_is)
#print axioms PySem.Challenge.cw_turnwires_k04_orders_and_kinds_of_wires_holds
