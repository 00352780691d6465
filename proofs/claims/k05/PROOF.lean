import PyProof.Rows.All
import Wide.All
import OpenK.AllK
import Wide.FinOn
import HandS.ForMost
import HandS.Walk
import HandS.Strs
import HandS.IsInst
import HandS.Gcd
import HandS.Defaults
import HandS.More
import HandS.Conv
import KE.KDictZip
import KE.KMathG
import HandS.ExcInit
import HandS.ExcField
import HandS.ExcIs
import HandS.ExcOwn
import HandS.ExcValue
import HandS.Iter
import HandS.Comp
import KE.KExcIs
import KE.KOpsOwn
import HandS.WordsExc
import HandS.CallSlots
import HandS.Flow
import HandS.FStr
import HandS.TryMany
import PyProof.InstNe
import KE.KCallOwn
import HandS.ExcInitHot
import PyProof.StrLawsTight
import PyProof.Rows.StrLawsPart
import KE.KIntText
import HandS.StrMore
import PySem.Challenge.RW_turnwires_k05_texts_of_wires
set_option Elab.async false
set_option linter.all false
set_option maxRecDepth 100000
namespace TW
/-! ### iteration -/
def it (f : Nat → Nat) : Nat → Nat → Nat
  | 0, x => x
  | k + 1, x => f (it f k x)
theorem it_add (f : Nat → Nat) (a b x : Nat) : it f (a + b) x = it f a (it f b x) := by
  induction a with
  | zero => rw [Nat.zero_add]; rfl
  | succ a ih => rw [Nat.succ_add]; show f (it f (a + b) x) = f (it f a (it f b x)); rw [ih]
theorem it_succ' (f : Nat → Nat) (k x : Nat) : it f (k + 1) x = it f k (f x) := it_add f k 1 x
/-- f leads the places below n to places below n, one to one -/
structure PermF (f : Nat → Nat) (n : Nat) : Prop where
  lt : ∀ x, x < n → f x < n
  inj : ∀ x y, x < n → y < n → f x = f y → x = y
theorem PermF.it_lt {f : Nat → Nat} {n : Nat} (P : PermF f n) (k : Nat) {x : Nat} (h : x < n) : it f k x < n := by
  induction k with
  | zero => exact h
  | succ k ih => exact P.lt _ ih
theorem PermF.it_inj {f : Nat → Nat} {n : Nat} (P : PermF f n) (k : Nat) {x y : Nat} (hx : x < n) (hy : y < n) (e : it f k x = it f k y) : x = y := by
  induction k with
  | zero => exact e
  | succ k ih => exact ih (P.inj _ _ (P.it_lt k hx) (P.it_lt k hy) e)
theorem nodup_le : ∀ (n : Nat) (l : List Nat), l.Nodup → (∀ x ∈ l, x < n) → l.length ≤ n
  | 0, l, _, h => by
    cases l with
    | nil => exact Nat.le_refl _
    | cons a r => exact absurd (h a List.mem_cons_self) (Nat.not_lt_zero _)
  | n + 1, l, nd, h => by
    have h1 : (l.erase n).Nodup := nd.erase n
    have h2 : ∀ x ∈ l.erase n, x < n := fun x hx => by
      have a := (List.Nodup.mem_erase_iff nd).mp hx
      have b := h x a.2
      have c := a.1
      omega
    have ih := nodup_le n (l.erase n) h1 h2
    have e : l.length ≤ (l.erase n).length + 1 := by
      rw [List.length_erase]
      split <;> omega
    omega
theorem not_nodup_of_long {n : Nat} {l : List Nat} (h : ∀ x ∈ l, x < n) (hl : n < l.length) : ¬ l.Nodup := fun nd => by
  have := nodup_le n l nd h
  omega
theorem exists_return {f : Nat → Nat} {n : Nat} (P : PermF f n) {p : Nat} (hp : p < n) : ∃ m, 0 < m ∧ m ≤ n ∧ it f m p = p := by
  by_cases hex : ∃ i j, i < j ∧ j ≤ n ∧ it f i p = it f j p
  · obtain ⟨i, j, hij, hj, e⟩ := hex
    refine ⟨j - i, by omega, by omega, ?_⟩
    have e2 : j = i + (j - i) := by omega
    rw [e2, it_add] at e
    exact (P.it_inj i hp (P.it_lt _ hp) e).symm
  · exfalso
    refine not_nodup_of_long (n := n) (l := (List.range (n + 1)).map fun k => it f k p) ?_ ?_ ?_
    · intro x hx
      obtain ⟨k, _, rfl⟩ := List.mem_map.mp hx
      exact P.it_lt k hp
    · rw [List.length_map, List.length_range]; omega
    · rw [List.nodup_iff_pairwise_ne, List.pairwise_map]
      refine List.Pairwise.imp_of_mem ?_ (List.pairwise_lt_range (n := n + 1))
      intro a b ha hb hab e
      exact hex ⟨a, b, hab, by have := List.mem_range.mp hb; omega, e⟩
/-- the least k ≥ 1 with it f k p = p, sought below n -/
def perA (f : Nat → Nat) (p : Nat) : Nat → Nat → Nat
  | 0, k => k
  | fuel + 1, k => if it f k p = p then k else perA f p fuel (k + 1)
def per (f : Nat → Nat) (n p : Nat) : Nat := perA f p n 1
theorem perA_spec (f : Nat → Nat) (p : Nat) : ∀ (fuel k m : Nat), k ≤ m → m < k + fuel → it f m p = p → (∀ i, 0 < i → i < k → it f i p ≠ p) → 0 < k →
    0 < perA f p fuel k ∧ it f (perA f p fuel k) p = p ∧ perA f p fuel k ≤ m ∧ ∀ i, 0 < i → i < perA f p fuel k → it f i p ≠ p
  | 0, k, m, h1, h2, _, _, _ => by omega
  | fuel + 1, k, m, h1, h2, e, hl, hk => by
    unfold perA
    by_cases c : it f k p = p
    · rw [if_pos c]
      exact ⟨hk, c, h1, hl⟩
    · rw [if_neg c]
      have hkm : k ≠ m := fun z => c (z ▸ e)
      refine perA_spec f p fuel (k + 1) m (by omega) (by omega) e (fun i i0 ik => ?_) (by omega)
      by_cases ci : i = k
      · rw [ci]; exact c
      · exact hl i i0 (by omega)
section
variable {f : Nat → Nat} {n : Nat} (P : PermF f n) {p : Nat} (hp : p < n)
include P hp
theorem per_spec : 0 < per f n p ∧ it f (per f n p) p = p ∧ per f n p ≤ n ∧ ∀ i, 0 < i → i < per f n p → it f i p ≠ p := by
  obtain ⟨m, h0, hm, e⟩ := exists_return P hp
  obtain ⟨a, b, c, d⟩ := perA_spec f p n 1 m (by omega) (by omega) e (fun i _ _ => by omega) (by omega)
  exact ⟨a, b, Nat.le_trans c hm, d⟩
theorem per_mod (k : Nat) : it f k p = it f (k % per f n p) p := by
  obtain ⟨h0, e, _, _⟩ := per_spec P hp
  have key : ∀ q r, it f (q * per f n p + r) p = it f r p := by
    intro q
    induction q with
    | zero => intro r; rw [Nat.zero_mul, Nat.zero_add]
    | succ q ih =>
      intro r
      rw [show (q + 1) * per f n p + r = (q * per f n p + r) + per f n p by rw [Nat.succ_mul]; omega, it_add, e]
      exact ih r
  conv => lhs; rw [← Nat.div_add_mod k (per f n p), Nat.mul_comm]
  exact key _ _
theorem it_inj_lt {i j : Nat} (hi : i < per f n p) (hj : j < per f n p) (e : it f i p = it f j p) : i = j := by
  obtain ⟨h0, _, _, hl⟩ := per_spec P hp
  have key : ∀ a b, a < b → b < per f n p → it f a p = it f b p → False := by
    intro a b hab hb e
    have e2 : b = a + (b - a) := by omega
    rw [e2, it_add] at e
    exact hl (b - a) (by omega) (by omega) (P.it_inj a hp (P.it_lt _ hp) e).symm
  rcases Nat.lt_trichotomy i j with h | h | h
  · exact (key i j h hj e).elim
  · exact h
  · exact (key j i h hi e.symm).elim
end
/-- the ring of p -/
def ring (f : Nat → Nat) (n p : Nat) : List Nat := (List.range (per f n p)).map fun k => it f k p
theorem ring_len (f : Nat → Nat) (n p : Nat) : (ring f n p).length = per f n p := by unfold ring; rw [List.length_map, List.length_range]
theorem ring_get (f : Nat → Nat) (n p k : Nat) (h : k < per f n p) : (ring f n p)[k]? = some (it f k p) := by
  unfold ring; rw [List.getElem?_map, List.getElem?_range h]; rfl
section
variable {f : Nat → Nat} {n : Nat} (P : PermF f n) {p x : Nat} (hp : p < n)
include P hp
theorem mem_ring : x ∈ ring f n p ↔ ∃ k, it f k p = x := by
  constructor
  · intro h
    obtain ⟨k, _, e⟩ := List.mem_map.mp h
    exact ⟨k, e⟩
  · rintro ⟨k, e⟩
    refine List.mem_map.mpr ⟨k % per f n p, List.mem_range.mpr (Nat.mod_lt _ (per_spec P hp).1), ?_⟩
    rw [← per_mod P hp, e]
theorem ring_lt (h : x ∈ ring f n p) : x < n := by
  obtain ⟨k, rfl⟩ := (mem_ring P hp).mp h
  exact P.it_lt k hp
theorem ring_nodup : (ring f n p).Nodup := by
  unfold ring
  rw [List.nodup_iff_pairwise_ne, List.pairwise_map]
  refine List.Pairwise.imp_of_mem ?_ (List.pairwise_lt_range (n := per f n p))
  intro a b ha hb hab e
  have := it_inj_lt P hp (List.mem_range.mp ha) (List.mem_range.mp hb) e
  omega
theorem self_ring : p ∈ ring f n p := (mem_ring P hp).mpr ⟨0, rfl⟩
theorem ring_symm (h : x ∈ ring f n p) : p ∈ ring f n x := by
  have hx := ring_lt P hp h
  obtain ⟨k, _, e⟩ := List.mem_map.mp h
  have hk := List.mem_range.mp ‹_›
  refine (mem_ring P hx).mpr ⟨per f n p - k, ?_⟩
  have e : it f k p = x := e
  rw [← e, ← it_add, Nat.sub_add_cancel (Nat.le_of_lt hk)]
  exact (per_spec P hp).2.1
theorem ring_trans {y : Nat} (h : x ∈ ring f n p) (h2 : y ∈ ring f n x) : y ∈ ring f n p := by
  have hx := ring_lt P hp h
  obtain ⟨k, e⟩ := (mem_ring P hp).mp h
  obtain ⟨j, e2⟩ := (mem_ring P hx).mp h2
  refine (mem_ring P hp).mpr ⟨j + k, ?_⟩
  rw [it_add, e, e2]
theorem ring_next (h : x ∈ ring f n p) : f x ∈ ring f n p := by
  obtain ⟨k, e⟩ := (mem_ring P hp).mp h
  exact (mem_ring P hp).mpr ⟨k + 1, by show f (it f k p) = f x; rw [e]⟩
theorem per_one : per f n p = 1 ↔ f p = p := by
  obtain ⟨h0, e, _, hl⟩ := per_spec P hp
  constructor
  · intro h
    rw [h] at e
    exact e
  · intro h
    rcases Nat.lt_or_ge 1 (per f n p) with c | c
    · exact absurd h (hl 1 (by omega) c)
    · omega
end
/-- p is the least of its ring -/
def lead (f : Nat → Nat) (n p : Nat) : Bool := (ring f n p).all fun x => decide (p ≤ x)
theorem lead_iff (f : Nat → Nat) (n p : Nat) : lead f n p = true ↔ ∀ x ∈ ring f n p, p ≤ x := by
  unfold lead
  rw [List.all_eq_true]
  constructor
  · intro h x hx; exact of_decide_eq_true (h x hx)
  · intro h x hx; exact decide_eq_true (h x hx)
theorem exists_min : ∀ (l : List Nat), l ≠ [] → ∃ m, m ∈ l ∧ ∀ x ∈ l, m ≤ x
  | [], h => absurd rfl h
  | [a], _ => ⟨a, List.mem_cons_self, fun x hx => by rw [List.mem_singleton.mp hx]; exact Nat.le_refl _⟩
  | a :: b :: r, _ => by
    obtain ⟨m, hm, hl⟩ := exists_min (b :: r) (by simp)
    by_cases c : a ≤ m
    · refine ⟨a, List.mem_cons_self, fun x hx => ?_⟩
      rcases List.mem_cons.mp hx with e | e
      · omega
      · have := hl x e; omega
    · refine ⟨m, List.mem_cons_of_mem _ hm, fun x hx => ?_⟩
      rcases List.mem_cons.mp hx with e | e
      · omega
      · exact hl x e
section
variable {f : Nat → Nat} {n : Nat} (P : PermF f n) {p : Nat} (hp : p < n)
include P hp
/-- the least of p's ring -/
theorem leader_of : ∃ q, q ≤ p ∧ lead f n q = true ∧ p ∈ ring f n q ∧ q ∈ ring f n p := by
  obtain ⟨q, hq, hl⟩ := exists_min (ring f n p) (fun z => by have := self_ring P hp; rw [z] at this; cases this)
  have hqn := ring_lt P hp hq
  refine ⟨q, hl p (self_ring P hp), (lead_iff f n q).mpr fun x hx => hl x (ring_trans P hp hq hx), ring_symm P hp hq, hq⟩
/-- p is no leader just if a lesser leader's ring has it -/
theorem not_lead_iff : lead f n p = false ↔ ∃ q, q < p ∧ lead f n q = true ∧ p ∈ ring f n q := by
  constructor
  · intro h
    obtain ⟨q, hqp, hl, hm, _⟩ := leader_of P hp
    refine ⟨q, ?_, hl, hm⟩
    rcases Nat.lt_or_ge q p with c | c
    · exact c
    · have e : q = p := by omega
      rw [e] at hl
      rw [hl] at h
      cases h
  · rintro ⟨q, hqp, hl, hm⟩
    have hqn : q < n := by omega
    have h2 := ring_symm P hqn hm
    cases c : lead f n p with
    | false => rfl
    | true =>
      have := (lead_iff f n p).mp c q h2
      omega
end
theorem lead_unique {f : Nat → Nat} {n : Nat} (P : PermF f n) {p q x : Nat} (hp : p < n) (hq : q < n) (lp : lead f n p = true) (lq : lead f n q = true) (h1 : x ∈ ring f n p) (h2 : x ∈ ring f n q) : p = q := by
  have hx := ring_lt P hp h1
  have a : p ∈ ring f n q := ring_trans P hq h2 (ring_symm P hp h1)
  have b : q ∈ ring f n p := ring_trans P hp h1 (ring_symm P hq h2)
  have c := (lead_iff f n q).mp lq p a
  have d := (lead_iff f n p).mp lp q b
  omega
/-- the rings of two or more places, of leaders below i -/
def heads (f : Nat → Nat) (n i : Nat) : List Nat := (List.range i).filter fun p => lead f n p && decide (f p ≠ p)
def ringsTo (f : Nat → Nat) (n i : Nat) : List (List Nat) := (heads f n i).map (ring f n)
def rings (f : Nat → Nat) (n : Nat) : List (List Nat) := ringsTo f n n
theorem ringsTo_succ (f : Nat → Nat) (n i : Nat) : ringsTo f n (i + 1) = ringsTo f n i ++ (if lead f n i = true ∧ f i ≠ i then [ring f n i] else []) := by
  unfold ringsTo heads
  rw [List.range_succ, List.filter_append, List.map_append]
  congr 1
  by_cases c : lead f n i = true ∧ f i ≠ i
  · rw [if_pos c, List.filter_cons_of_pos (by simp [c.1, c.2])]
    rfl
  · rw [if_neg c, List.filter_cons_of_neg (by simp only [Bool.and_eq_true, decide_eq_true_eq]; exact c)]
    rfl
theorem mem_heads {f : Nat → Nat} {n i p : Nat} : p ∈ heads f n i ↔ p < i ∧ lead f n p = true ∧ f p ≠ p := by
  unfold heads
  rw [List.mem_filter, List.mem_range, Bool.and_eq_true, decide_eq_true_eq]
end TW

namespace TW
/-! ### a ring's pairs -/
def rot (r : List Nat) : List Nat := r.drop 1 ++ r.take 1
def nxt (r : List Nat) : List (Nat × Nat) := r.zip (rot r)
def graph (f : Nat → Nat) (r : List Nat) : List (Nat × Nat) := r.map fun x => (x, f x)
/-- the ring is led on by f -/
def Follows (f : Nat → Nat) (r : List Nat) : Prop := nxt r = graph f r
theorem rot_len (r : List Nat) : (rot r).length = r.length := by
  unfold rot
  rw [List.length_append, List.length_drop, List.length_take]
  omega
theorem follows_iff {f : Nat → Nat} {r : List Nat} : Follows f r ↔ rot r = r.map f := by
  unfold Follows nxt graph
  constructor
  · intro h
    have e := congrArg (List.map Prod.snd) h
    rw [List.map_snd_zip (by rw [rot_len]; exact Nat.le_refl _), List.map_map] at e
    exact e
  · intro h
    rw [h]
    clear h
    induction r with
    | nil => rfl
    | cons a r ih => show (a, f a) :: r.zip (r.map f) = (a, f a) :: r.map (fun x => (x, f x)); rw [ih]
theorem follows_ring {f : Nat → Nat} {n : Nat} (P : PermF f n) {p : Nat} (hp : p < n) : Follows f (ring f n p) := by
  rw [follows_iff]
  obtain ⟨h0, e, _, _⟩ := per_spec P hp
  apply List.ext_getElem?
  intro i
  unfold rot
  rw [List.getElem?_append, List.length_drop, ring_len, List.getElem?_map]
  by_cases c : i < per f n p - 1
  · rw [if_pos c, List.getElem?_drop, ring_get f n p (1 + i) (by omega), ring_get f n p i (by omega)]
    rw [Nat.add_comm]
    rfl
  · rw [if_neg c]
    by_cases c2 : i = per f n p - 1
    · rw [c2, Nat.sub_self, ring_get f n p _ (by omega), List.getElem?_take]
      rw [if_pos (by omega), ring_get f n p 0 h0]
      show some p = some (f (it f (per f n p - 1) p))
      have : it f (per f n p - 1 + 1) p = f (it f (per f n p - 1) p) := rfl
      rw [← this, Nat.sub_add_cancel h0, e]
    · rw [List.getElem?_take]
      have l : (ring f n p)[i]? = none := List.getElem?_eq_none (by rw [ring_len]; omega)
      rw [l]
      by_cases c3 : i - (per f n p - 1) < 1
      · exfalso; omega
      · rw [if_neg c3]; rfl
/-! ### the heads, once more -/
theorem heads_sorted (f : Nat → Nat) (n i : Nat) : (heads f n i).Pairwise (· < ·) := List.Pairwise.filter _ List.pairwise_lt_range
theorem ext_sorted : ∀ {l m : List Nat}, l.Pairwise (· < ·) → m.Pairwise (· < ·) → (∀ x, x ∈ l ↔ x ∈ m) → l = m
  | [], [], _, _, _ => rfl
  | [], b :: m, _, _, h => absurd ((h b).mpr List.mem_cons_self) (by simp)
  | a :: l, [], _, _, h => absurd ((h a).mp List.mem_cons_self) (by simp)
  | a :: l, b :: m, hl, hm, h => by
    obtain ⟨ha, hl'⟩ := List.pairwise_cons.mp hl
    obtain ⟨hb, hm'⟩ := List.pairwise_cons.mp hm
    have e : a = b := by
      rcases List.mem_cons.mp ((h a).mp List.mem_cons_self) with q | q
      · exact q
      · rcases List.mem_cons.mp ((h b).mpr List.mem_cons_self) with q2 | q2
        · exact q2.symm
        · have := hb a q
          have := ha b q2
          omega
    subst e
    congr 1
    refine ext_sorted hl' hm' fun x => ?_
    constructor
    · intro hx
      rcases List.mem_cons.mp ((h x).mp (List.mem_cons_of_mem _ hx)) with q | q
      · have := ha x hx; omega
      · exact q
    · intro hx
      rcases List.mem_cons.mp ((h x).mpr (List.mem_cons_of_mem _ hx)) with q | q
      · have := hb x hx; omega
      · exact q
/-- sorted keys that hold all places that move give the same heads -/
theorem heads_of {f : Nat → Nat} {n : Nat} {ys : List Nat} (hs : ys.Pairwise (· < ·)) (hlt : ∀ y ∈ ys, y < n) (hall : ∀ x, x < n → f x ≠ x → x ∈ ys) :
    ys.filter (fun p => lead f n p && decide (f p ≠ p)) = heads f n n := by
  refine ext_sorted (List.Pairwise.filter _ hs) (heads_sorted f n n) fun x => ?_
  rw [mem_heads, List.mem_filter, Bool.and_eq_true, decide_eq_true_eq]
  constructor
  · rintro ⟨a, b, c⟩; exact ⟨hlt x a, b, c⟩
  · rintro ⟨a, b, c⟩; exact ⟨hall x a c, b, c⟩
/-! ### all rings in a row -/
theorem flatten_nodup {f : Nat → Nat} {n : Nat} (P : PermF f n) : ∀ {hs : List Nat}, hs.Pairwise (· < ·) → (∀ p ∈ hs, p < n ∧ lead f n p = true) → ((hs.map (ring f n)).flatten).Nodup
  | [], _, _ => by simp
  | p :: hs, h, hl => by
    obtain ⟨h1, h2⟩ := List.pairwise_cons.mp h
    obtain ⟨hp, lp⟩ := hl p List.mem_cons_self
    show (ring f n p ++ (hs.map (ring f n)).flatten).Nodup
    rw [List.nodup_append]
    refine ⟨ring_nodup P hp, flatten_nodup P h2 fun q hq => hl q (List.mem_cons_of_mem _ hq), fun a ha b hb e => ?_⟩
    subst e
    obtain ⟨r, hr, har⟩ := List.mem_flatten.mp hb
    obtain ⟨q, hq, rfl⟩ := List.mem_map.mp hr
    obtain ⟨hqn, lq⟩ := hl q (List.mem_cons_of_mem _ hq)
    have := h1 q hq
    have := lead_unique P hp hqn lp lq ha har
    omega
theorem rings_nodup {f : Nat → Nat} {n : Nat} (P : PermF f n) : (rings f n).flatten.Nodup :=
  flatten_nodup P (heads_sorted f n n) fun p hp => by obtain ⟨a, b, _⟩ := mem_heads.mp hp; exact ⟨a, b⟩
theorem rings_lt {f : Nat → Nat} {n : Nat} (P : PermF f n) {x : Nat} (h : x ∈ (rings f n).flatten) : x < n := by
  obtain ⟨r, hr, hx⟩ := List.mem_flatten.mp h
  obtain ⟨q, hq, rfl⟩ := List.mem_map.mp hr
  exact ring_lt P (mem_heads.mp hq).1 hx
theorem rings_all {f : Nat → Nat} {n : Nat} (P : PermF f n) {x : Nat} (hx : x < n) (hm : f x ≠ x) : x ∈ (rings f n).flatten := by
  obtain ⟨q, hq, lq, h1, h2⟩ := leader_of P hx
  have hqn : q < n := by omega
  refine List.mem_flatten.mpr ⟨ring f n q, List.mem_map.mpr ⟨q, mem_heads.mpr ⟨hqn, lq, fun e => ?_⟩, rfl⟩, h1⟩
  have o := (per_one P hqn).mpr e
  have l : ring f n q = [q] := by unfold ring; rw [o]; rfl
  rw [l] at h1
  rw [List.mem_singleton.mp h1] at hm
  exact hm e
theorem rings_ne {f : Nat → Nat} {n : Nat} (P : PermF f n) {r : List Nat} (h : r ∈ rings f n) : r ≠ [] := by
  obtain ⟨q, hq, rfl⟩ := List.mem_map.mp h
  intro e
  have := self_ring P (mem_heads.mp hq).1
  rw [e] at this
  cases this
theorem rings_follow {f : Nat → Nat} {n : Nat} (P : PermF f n) {r : List Nat} (h : r ∈ rings f n) : Follows f r := by
  obtain ⟨q, hq, rfl⟩ := List.mem_map.mp h
  exact follows_ring P (mem_heads.mp hq).1
theorem graph_append (f : Nat → Nat) (a b : List Nat) : graph f (a ++ b) = graph f a ++ graph f b := List.map_append
theorem graph_fst (f : Nat → Nat) (a : List Nat) : (graph f a).map Prod.fst = a := by
  unfold graph
  rw [List.map_map]
  show a.map (fun x => x) = a
  exact List.map_id' a
/-! ### a list as a map of its places -/
def ap (im : List Nat) (x : Nat) : Nat := im.getD x 0
structure IsPerm (im : List Nat) : Prop where
  nd : im.Nodup
  lt : ∀ x ∈ im, x < im.length
theorem ap_get {im : List Nat} {x : Nat} (h : x < im.length) : im[x]? = some (ap im x) := by
  unfold ap
  rw [List.getD_eq_getElem?_getD, List.getElem?_eq_getElem h]
  rfl
theorem ap_mem {im : List Nat} {x : Nat} (h : x < im.length) : ap im x ∈ im := List.mem_of_getElem? (ap_get h)
theorem IsPerm.perm {im : List Nat} (h : IsPerm im) : PermF (ap im) im.length where
  lt x hx := h.lt _ (ap_mem hx)
  inj x y hx hy e := by
    have a := ap_get hx
    have b := ap_get hy
    rw [e] at a
    obtain ⟨h1, e1⟩ := List.getElem?_eq_some_iff.mp a
    obtain ⟨h2, e2⟩ := List.getElem?_eq_some_iff.mp b
    exact (List.getElem_inj h.nd).mp (e1.trans e2.symm)
theorem im_eq (im : List Nat) : (List.range im.length).map (ap im) = im := by
  apply List.ext_getElem?
  intro i
  rw [List.getElem?_map]
  by_cases c : i < im.length
  · rw [List.getElem?_range c, ap_get c]; rfl
  · rw [List.getElem?_eq_none (by rw [List.length_range]; omega), List.getElem?_eq_none (by omega)]; rfl
end TW

namespace TW
/-! ### drawing -/
theorem isPerm_of {n : Nat} {im : List Nat} (h : im.Perm (List.range n)) : IsPerm im ∧ im.length = n := by
  have hl : im.length = n := by rw [h.length_eq, List.length_range]
  refine ⟨⟨h.nodup_iff.mpr List.nodup_range, fun x hx => ?_⟩, hl⟩
  rw [hl]
  exact List.mem_range.mp (h.mem_iff.mp hx)
theorem cons_erase_perm : ∀ {l : List Nat} {k x : Nat}, l[k]? = some x → (x :: l.eraseIdx k).Perm l
  | [], k, x, h => by simp at h
  | a :: l, 0, x, h => by
    have e : a = x := Option.some.inj h
    rw [e]
    exact List.Perm.refl _
  | a :: l, k + 1, x, h => by
    have ih := cons_erase_perm (l := l) (k := k) (x := x) h
    exact (List.Perm.swap a x (l.eraseIdx k)).trans (List.Perm.cons a ih)
theorem draw_step {n k x : Nat} {im rest : List Nat} (h : (im ++ rest).Perm (List.range n)) (hx : rest[k]? = some x) : ((im ++ [x]) ++ rest.eraseIdx k).Perm (List.range n) := by
  obtain ⟨hk, e⟩ := List.getElem?_eq_some_iff.mp hx
  refine List.Perm.trans ?_ h
  rw [List.append_assoc]
  refine List.Perm.append_left im ?_
  exact cons_erase_perm hx
theorem erase_map {α β : Type} (f : α → β) : ∀ (l : List α) (k : Nat), (l.map f).eraseIdx k = (l.eraseIdx k).map f
  | [], k => by simp
  | a :: l, 0 => rfl
  | a :: l, k + 1 => congrArg (List.cons (f a)) (erase_map f l k)
theorem erase_len {k x : Nat} {rest : List Nat} (hx : rest[k]? = some x) : (rest.eraseIdx k).length + 1 = rest.length := by
  obtain ⟨hk, _⟩ := List.getElem?_eq_some_iff.mp hx
  rw [List.length_eraseIdx_of_lt hk]
  omega
end TW

namespace TW
/-! ### a ring as it grows -/
def pref (f : Nat → Nat) (p k : Nat) : List Nat := (List.range k).map fun j => it f j p
theorem pref_succ (f : Nat → Nat) (p k : Nat) : pref f p (k + 1) = pref f p k ++ [it f k p] := by
  unfold pref
  rw [List.range_succ, List.map_append]
  rfl
theorem pref_len (f : Nat → Nat) (p k : Nat) : (pref f p k).length = k := by unfold pref; rw [List.length_map, List.length_range]
theorem ring_pref (f : Nat → Nat) (n p : Nat) : ring f n p = pref f p (per f n p) := rfl
section
variable {f : Nat → Nat} {n : Nat} (P : PermF f n) {p : Nat} (hp : p < n)
include P hp
theorem back_iff {j : Nat} (hj : j < per f n p) : it f (j + 1) p = p ↔ j + 1 = per f n p := by
  obtain ⟨h0, e, _, hl⟩ := per_spec P hp
  constructor
  · intro h
    rcases Nat.lt_or_ge (j + 1) (per f n p) with c | c
    · exact absurd h (hl (j + 1) (by omega) c)
    · omega
  · intro h; rw [h]; exact e
/-- who is met so far -/
theorem seen_lead {s : List Nat} (hs : ∀ x, x ∈ s ↔ ∃ q, q < p ∧ x ∈ ring f n q) : p ∈ s ↔ lead f n p = false := by
  rw [hs, not_lead_iff P hp]
  constructor
  · rintro ⟨q, hq, hm⟩
    have hqn : q < n := by omega
    obtain ⟨r, hr, lr, h1, h2⟩ := leader_of P hp
    have h3 := ring_symm P hqn hm
    have := (lead_iff f n r).mp lr q (ring_trans P (by omega) h1 h3)
    exact ⟨r, by omega, lr, h1⟩
  · rintro ⟨q, hq, _, hm⟩
    exact ⟨q, hq, hm⟩
theorem seen_skip {s : List Nat} (hs : ∀ x, x ∈ s ↔ ∃ q, q < p ∧ x ∈ ring f n q) (hm : p ∈ s) (x : Nat) : x ∈ s ↔ ∃ q, q < p + 1 ∧ x ∈ ring f n q := by
  constructor
  · intro h
    obtain ⟨q, hq, h2⟩ := (hs x).mp h
    exact ⟨q, by omega, h2⟩
  · rintro ⟨q, hq, h2⟩
    by_cases c : q = p
    · subst c
      obtain ⟨r, hr, h3⟩ := (hs q).mp hm
      exact (hs x).mpr ⟨r, hr, ring_trans P (by omega) h3 h2⟩
    · exact (hs x).mpr ⟨q, by omega, h2⟩
end
theorem seen_more {f : Nat → Nat} {n p : Nat} {s : List Nat} (hs : ∀ x, x ∈ s ↔ ∃ q, q < p ∧ x ∈ ring f n q) (x : Nat) : x ∈ s ++ ring f n p ↔ ∃ q, q < p + 1 ∧ x ∈ ring f n q := by
  rw [List.mem_append]
  constructor
  · rintro (h | h)
    · obtain ⟨q, hq, h2⟩ := (hs x).mp h
      exact ⟨q, by omega, h2⟩
    · exact ⟨p, by omega, h⟩
  · rintro ⟨q, hq, h2⟩
    by_cases c : q = p
    · subst c; exact .inr h2
    · exact .inl ((hs x).mpr ⟨q, by omega, h2⟩)
theorem ringsTo_skip {f : Nat → Nat} {n i : Nat} (h : lead f n i = false) : ringsTo f n (i + 1) = ringsTo f n i := by
  rw [ringsTo_succ, if_neg (by rw [h]; simp), List.append_nil]
theorem ringsTo_stay {f : Nat → Nat} {n i : Nat} (h : f i = i) : ringsTo f n (i + 1) = ringsTo f n i := by
  rw [ringsTo_succ, if_neg (fun c => c.2 h), List.append_nil]
theorem ringsTo_more {f : Nat → Nat} {n i : Nat} (h : lead f n i = true) (h2 : f i ≠ i) : ringsTo f n (i + 1) = ringsTo f n i ++ [ring f n i] := by
  rw [ringsTo_succ, if_pos ⟨h, h2⟩]
theorem heads_len (f : Nat → Nat) (n i : Nat) : (heads f n i).length ≤ i := by
  unfold heads
  exact Nat.le_trans (List.length_filter_le _ _) (by rw [List.length_range]; exact Nat.le_refl _)
theorem ringsTo_len (f : Nat → Nat) (n i : Nat) : (ringsTo f n i).length ≤ i := by
  unfold ringsTo
  rw [List.length_map]
  exact heads_len f n i
end TW

namespace TW
/-! ### the pairs of rings in a row -/
def pairs (rs : List (List Nat)) : List (Nat × Nat) := (rs.map nxt).flatten
theorem nxt_fst (r : List Nat) : (nxt r).map Prod.fst = r := by
  unfold nxt
  exact List.map_fst_zip (by rw [rot_len]; exact Nat.le_refl _)
theorem nxt_len (r : List Nat) : (nxt r).length = r.length := by
  have := congrArg List.length (nxt_fst r)
  rw [List.length_map] at this
  exact this
theorem pairs_fst (rs : List (List Nat)) : (pairs rs).map Prod.fst = rs.flatten := by
  unfold pairs
  induction rs with
  | nil => rfl
  | cons r rs ih =>
    show ((nxt r) ++ (rs.map nxt).flatten).map Prod.fst = r ++ rs.flatten
    rw [List.map_append, nxt_fst, ih]
theorem pairs_snoc {rs : List (List Nat)} {i : Nat} {r : List Nat} (h : rs[i]? = some r) : pairs (rs.take (i + 1)) = pairs (rs.take i) ++ nxt r := by
  unfold pairs
  rw [List.take_add_one, h, List.map_append, List.flatten_append]
  show _ ++ [nxt r].flatten = _
  rw [List.flatten_singleton]
theorem pairs_take_len (rs : List (List Nat)) (i : Nat) : (pairs (rs.take i)).length ≤ rs.flatten.length := by
  have e := congrArg List.length (pairs_fst (rs.take i))
  rw [List.length_map] at e
  rw [e]
  have h : rs.flatten = (rs.take i).flatten ++ (rs.drop i).flatten := by rw [← List.flatten_append, List.take_append_drop]
  rw [h, List.length_append]
  omega
/-- the j-th place of the i-th ring is not among those before -/
theorem not_before {rs : List (List Nat)} (hnd : rs.flatten.Nodup) {i j x : Nat} {r : List Nat} (h : rs[i]? = some r) (hx : r[j]? = some x) : x ∉ (pairs (rs.take i) ++ (nxt r).take j).map Prod.fst := by
  rw [List.map_append, pairs_fst, List.map_take, nxt_fst]
  obtain ⟨hi, ei⟩ := List.getElem?_eq_some_iff.mp h
  obtain ⟨hj, ej⟩ := List.getElem?_eq_some_iff.mp hx
  have e1 : rs = rs.take i ++ r :: rs.drop (i + 1) := by
    rw [← ei, List.getElem_cons_drop, List.take_append_drop]
  have e2 : r = r.take j ++ x :: r.drop (j + 1) := by
    rw [← ej, List.getElem_cons_drop, List.take_append_drop]
  rw [e1, List.flatten_append, List.flatten_cons] at hnd
  obtain ⟨_, h2, h3⟩ := List.nodup_append.mp hnd
  intro hm
  rcases List.mem_append.mp hm with q | q
  · exact h3 x q x (List.mem_append_left _ (List.mem_of_getElem? hx)) rfl
  · have h4 := (List.nodup_append.mp h2).1
    rw [e2] at h4
    have h5 := (List.nodup_append.mp h4).2.2
    exact h5 x q x List.mem_cons_self rfl
theorem nxt_get {r : List Nat} {j x y : Nat} (hx : r[j]? = some x) (hy : (rot r)[j]? = some y) : (nxt r)[j]? = some (x, y) := by
  unfold nxt
  rw [List.getElem?_zip_eq_some]
  exact ⟨hx, hy⟩
theorem take_snoc {α : Type} {l : List α} {j : Nat} {x : α} (h : l[j]? = some x) : l.take (j + 1) = l.take j ++ [x] := by
  rw [List.take_add_one, h]
  rfl
theorem pairs_follow {f : Nat → Nat} : ∀ {rs : List (List Nat)}, (∀ r ∈ rs, Follows f r) → pairs rs = graph f rs.flatten
  | [], _ => rfl
  | r :: rs, h => by
    show nxt r ++ pairs rs = graph f (r ++ rs.flatten)
    rw [graph_append, pairs_follow fun q hq => h q (List.mem_cons_of_mem _ hq), h r List.mem_cons_self]
end TW

namespace TW
/-! ### sorted keys -/
theorem perm_nat {ys : List Int} {ks : List Nat} (h : ys.Perm (ks.map fun (k : Nat) => (k : Int))) (hs : ys.Pairwise (· ≤ ·)) (hn : ks.Nodup) :
    ∃ zs : List Nat, ys = zs.map (fun (k : Nat) => (k : Int)) ∧ zs.Perm ks ∧ zs.Pairwise (· < ·) := by
  have hnn : ∀ y ∈ ys, 0 ≤ y := fun y hy => by
    obtain ⟨k, _, rfl⟩ := List.mem_map.mp (h.mem_iff.mp hy)
    omega
  have e : ys = (ys.map Int.toNat).map (fun (k : Nat) => (k : Int)) := by
    rw [List.map_map]
    have : ∀ l : List Int, (∀ y ∈ l, 0 ≤ y) → l = l.map ((fun (k : Nat) => (k : Int)) ∘ Int.toNat) := by
      intro l
      induction l with
      | nil => intro _; rfl
      | cons a l ih =>
        intro hl
        have h1 := hl a List.mem_cons_self
        have h2 := ih fun y hy => hl y (List.mem_cons_of_mem _ hy)
        rw [List.map_cons, ← h2]
        congr 1
        show a = ((a.toNat : Nat) : Int)
        omega
    exact this ys hnn
  have hp : (ys.map Int.toNat).Perm ks := by
    have := h.map Int.toNat
    rw [List.map_map] at this
    have e2 : ks.map (Int.toNat ∘ fun (k : Nat) => (k : Int)) = ks := by
      rw [show (Int.toNat ∘ fun (k : Nat) => (k : Int)) = id from funext fun k => by show ((k : Int)).toNat = k; omega]
      exact List.map_id ks
    rw [e2] at this
    exact this
  refine ⟨ys.map Int.toNat, e, hp, ?_⟩
  have nd : (ys.map Int.toNat).Nodup := hp.nodup_iff.mpr hn
  rw [List.nodup_iff_pairwise_ne] at nd
  have hle : (ys.map Int.toNat).Pairwise (· ≤ ·) := by
    rw [List.pairwise_map]
    exact hs.imp fun h => Int.toNat_le_toNat h
  exact (hle.and nd).imp fun ⟨a, b⟩ => Nat.lt_of_le_of_ne a b
/-- a head's own test -/
def headB (f : Nat → Nat) (n p : Nat) : Bool := lead f n p && decide (f p ≠ p)
theorem headB_iff {f : Nat → Nat} {n p : Nat} : headB f n p = true ↔ lead f n p = true ∧ f p ≠ p := by
  unfold headB
  rw [Bool.and_eq_true, decide_eq_true_eq]
def ringsIn (f : Nat → Nat) (n : Nat) (zs : List Nat) : List (List Nat) := (zs.filter (headB f n)).map (ring f n)
theorem ringsIn_more {f : Nat → Nat} {n : Nat} {zs : List Nat} {i y : Nat} (h : zs[i]? = some y) (hb : headB f n y = true) : ringsIn f n (zs.take (i + 1)) = ringsIn f n (zs.take i) ++ [ring f n y] := by
  unfold ringsIn
  rw [take_snoc h, List.filter_append, List.map_append, List.filter_cons_of_pos hb]
  rfl
theorem ringsIn_stay {f : Nat → Nat} {n : Nat} {zs : List Nat} {i y : Nat} (h : zs[i]? = some y) (hb : headB f n y = false) : ringsIn f n (zs.take (i + 1)) = ringsIn f n (zs.take i) := by
  unfold ringsIn
  rw [take_snoc h, List.filter_append, List.filter_cons_of_neg (by rw [hb]; simp), List.filter_nil, List.append_nil]
theorem ringsIn_len (f : Nat → Nat) (n : Nat) (zs : List Nat) : (ringsIn f n zs).length ≤ zs.length := by
  unfold ringsIn
  rw [List.length_map]
  exact List.length_filter_le _ _
theorem ringsIn_all {f : Nat → Nat} {n : Nat} {zs : List Nat} (hs : zs.Pairwise (· < ·)) (hlt : ∀ y ∈ zs, y < n) (hall : ∀ x, x < n → f x ≠ x → x ∈ zs) : ringsIn f n zs = rings f n := by
  unfold ringsIn rings ringsTo
  exact congrArg (List.map (ring f n)) (heads_of hs hlt hall)
/-- who is marked when the places zs.take i have been looked at -/
def Marked (f : Nat → Nat) (n : Nat) (zs : List Nat) (x : Nat) : Prop := ∃ q ∈ zs, headB f n q = true ∧ x ∈ ring f n q ∧ x ≠ q
section
variable {f : Nat → Nat} {n : Nat} (P : PermF f n) {zs : List Nat} (hs : zs.Pairwise (· < ·)) (hlt : ∀ y ∈ zs, y < n) (hall : ∀ x, x < n → f x ≠ x → x ∈ zs) {i y : Nat} (hy : zs[i]? = some y)
include P hs hlt hall hy
theorem mem_take_of_lt {q : Nat} (hq : q ∈ zs) (hl : q < y) : q ∈ zs.take i := by
  obtain ⟨hi, ey⟩ := List.getElem?_eq_some_iff.mp hy
  obtain ⟨j, hj, e⟩ := List.mem_iff_getElem.mp hq
  rw [List.mem_take_iff_getElem]
  have hji : j < i := by
    rcases Nat.lt_trichotomy j i with c | c | c
    · exact c
    · subst c; rw [e] at ey; omega
    · have := (List.pairwise_iff_getElem.mp hs) i j hi hj c
      rw [ey, e] at this
      omega
  exact ⟨j, by omega, e⟩
theorem lt_of_mem_take {q : Nat} (hq : q ∈ zs.take i) : q < y := by
  obtain ⟨hi, ey⟩ := List.getElem?_eq_some_iff.mp hy
  obtain ⟨j, hj, e⟩ := List.mem_take_iff_getElem.mp hq
  have hj' : j < i := by omega
  have := (List.pairwise_iff_getElem.mp hs) j i (by omega) hi hj'
  rw [ey, e] at this
  exact this
/-- marked just if no leader -/
theorem marked_iff : Marked f n (zs.take i) y ↔ lead f n y = false := by
  have hyn : y < n := hlt y (List.mem_of_getElem? hy)
  constructor
  · rintro ⟨q, hq, hb, hm, hne⟩
    have hqn : q < n := hlt q (List.mem_of_mem_take hq)
    exact (not_lead_iff P hyn).mpr ⟨q, lt_of_mem_take P hs hlt hall hy hq, (headB_iff.mp hb).1, hm⟩
  · intro h
    obtain ⟨q, hq, lq, hm⟩ := (not_lead_iff P hyn).mp h
    have hqn : q < n := by omega
    have hfq : f q ≠ q := fun e => by
      have o := (per_one P hqn).mpr e
      have l : ring f n q = [q] := by unfold ring; rw [o]; rfl
      rw [l] at hm
      have := List.mem_singleton.mp hm
      omega
    exact ⟨q, mem_take_of_lt P hs hlt hall hy (hall q hqn hfq) hq, headB_iff.mpr ⟨lq, hfq⟩, hm, by omega⟩
end
theorem marked_stay {f : Nat → Nat} {n : Nat} {zs : List Nat} {i y : Nat} (hy : zs[i]? = some y) (hb : headB f n y = false) (x : Nat) : Marked f n (zs.take (i + 1)) x ↔ Marked f n (zs.take i) x := by
  unfold Marked
  rw [take_snoc hy]
  constructor
  · rintro ⟨q, hq, h1, h2⟩
    rcases List.mem_append.mp hq with h | h
    · exact ⟨q, h, h1, h2⟩
    · rw [List.mem_singleton.mp h, hb] at h1; cases h1
  · rintro ⟨q, hq, h⟩
    exact ⟨q, List.mem_append_left _ hq, h⟩
theorem marked_more {f : Nat → Nat} {n : Nat} {zs : List Nat} {i y : Nat} (hy : zs[i]? = some y) (hb : headB f n y = true) (x : Nat) : Marked f n (zs.take (i + 1)) x ↔ Marked f n (zs.take i) x ∨ (x ∈ ring f n y ∧ x ≠ y) := by
  unfold Marked
  rw [take_snoc hy]
  constructor
  · rintro ⟨q, hq, h1, h2⟩
    rcases List.mem_append.mp hq with h | h
    · exact .inl ⟨q, h, h1, h2⟩
    · rw [List.mem_singleton.mp h] at h2; exact .inr h2
  · rintro (⟨q, hq, h⟩ | h)
    · exact ⟨q, List.mem_append_left _ hq, h⟩
    · exact ⟨y, List.mem_append_right _ List.mem_cons_self, hb, h⟩
/-- the ring but its first place -/
theorem ring_tail {f : Nat → Nat} {n : Nat} (P : PermF f n) {p x : Nat} (hp : p < n) : (x ∈ ring f n p ∧ x ≠ p) ↔ ∃ k, 1 ≤ k ∧ k < per f n p ∧ x = it f k p := by
  constructor
  · rintro ⟨h, hne⟩
    obtain ⟨k, hk, e⟩ := List.mem_map.mp h
    have hk' := List.mem_range.mp hk
    have e : it f k p = x := e
    refine ⟨k, ?_, hk', e.symm⟩
    rcases Nat.eq_zero_or_pos k with c | c
    · subst c; exact absurd e.symm hne
    · exact c
  · rintro ⟨k, k1, k2, rfl⟩
    exact ⟨(mem_ring P hp).mpr ⟨k, rfl⟩, (per_spec P hp).2.2.2 k k1 k2⟩
end TW

namespace TW
/-! ### a list's own map -/
theorem isPerm_of_graph {n : Nat} {f : Nat → Nat} (P : PermF f n) : IsPerm ((List.range n).map f) := by
  refine ⟨?_, ?_⟩
  · rw [List.nodup_iff_pairwise_ne, List.pairwise_map]
    refine List.Pairwise.imp_of_mem ?_ (List.pairwise_lt_range (n := n))
    intro a b ha hb hab e
    have := P.inj a b (List.mem_range.mp ha) (List.mem_range.mp hb) e
    omega
  · intro x hx
    rw [List.length_map, List.length_range]
    obtain ⟨k, hk, rfl⟩ := List.mem_map.mp hx
    exact P.lt _ (List.mem_range.mp hk)
theorem rings_stay {f : Nat → Nat} {n : Nat} (P : PermF f n) {x : Nat} (hx : x < n) (h : x ∉ (rings f n).flatten) : f x = x := by
  by_cases c : f x = x
  · exact c
  · exact absurd (rings_all P hx c) h
theorem sum_le : ∀ {rs : List (List Nat)}, (rs.map List.length).sum = rs.flatten.length
  | [] => rfl
  | r :: rs => by rw [List.map_cons, List.sum_cons, List.flatten_cons, List.length_append, sum_le (rs := rs)]
theorem rings_total {f : Nat → Nat} {n : Nat} (P : PermF f n) : (rings f n).flatten.length ≤ n := nodup_le n _ (rings_nodup P) fun _ h => rings_lt P h
/-- the least common multiple of the lengths -/
def lcmTo (rs : List (List Nat)) : Nat := rs.foldl (fun l r => Nat.lcm l r.length) 1
theorem lcmTo_snoc {rs : List (List Nat)} {i : Nat} {r : List Nat} (h : rs[i]? = some r) : lcmTo (rs.take (i + 1)) = Nat.lcm (lcmTo (rs.take i)) r.length := by
  unfold lcmTo
  rw [take_snoc h, List.foldl_append]
  rfl
theorem lcm_le {a b : Nat} : Nat.lcm a b ≤ a * b := Nat.div_le_self _ _
theorem lcm_fold_le : ∀ (rs : List (List Nat)) (a : Nat), rs.foldl (fun l r => Nat.lcm l r.length) a ≤ a * 2 ^ (rs.map List.length).sum
  | [], a => by simp
  | r :: rs, a => by
    show rs.foldl _ (Nat.lcm a r.length) ≤ _
    refine Nat.le_trans (lcm_fold_le rs _) ?_
    rw [List.map_cons, List.sum_cons, Nat.pow_add, ← Nat.mul_assoc]
    exact Nat.mul_le_mul_right _ (Nat.le_trans lcm_le (Nat.mul_le_mul_left a (Nat.le_of_lt Nat.lt_two_pow_self)))
theorem lcmTo_lt {f : Nat → Nat} {n : Nat} (P : PermF f n) (hn : n ≤ 60) (i : Nat) : lcmTo ((rings f n).take i) < 2 ^ 64 := by
  refine Nat.lt_of_le_of_lt (lcm_fold_le _ 1) ?_
  have h1 : (((rings f n).take i).map List.length).sum ≤ n := by
    rw [sum_le]
    have h : (rings f n).flatten = ((rings f n).take i).flatten ++ ((rings f n).drop i).flatten := by rw [← List.flatten_append, List.take_append_drop]
    have := rings_total P
    rw [h, List.length_append] at this
    omega
  rw [Nat.one_mul]
  exact Nat.lt_of_le_of_lt (Nat.pow_le_pow_right (by decide) (Nat.le_trans h1 hn)) (by decide)
theorem lcmTo_pos {rs : List (List Nat)} (h : ∀ r ∈ rs, r ≠ []) : 0 < lcmTo rs := by
  unfold lcmTo
  have : ∀ (rs : List (List Nat)) (a : Nat), 0 < a → (∀ r ∈ rs, r ≠ []) → 0 < rs.foldl (fun l r => Nat.lcm l r.length) a := by
    intro rs
    induction rs with
    | nil => intro a ha _; exact ha
    | cons r rs ih =>
      intro a ha hr
      refine ih _ (Nat.lcm_pos ha ?_) fun q hq => hr q (List.mem_cons_of_mem _ hq)
      exact List.length_pos_iff.mpr (hr r List.mem_cons_self)
  exact this rs 1 (by decide) h
end TW

namespace TW
/-! ### swapping -/
theorem map_set (g : Nat → Nat) (n a v : Nat) : ((List.range n).map g).set a v = (List.range n).map fun x => if x = a then v else g x := by
  apply List.ext_getElem?
  intro i
  rw [List.getElem?_set, List.getElem?_map, List.getElem?_map, List.length_map, List.length_range]
  by_cases hi : i < n
  · rw [List.getElem?_range hi]
    by_cases c : a = i
    · subst c
      rw [if_pos rfl, if_pos hi]
      simp
    · rw [if_neg c]
      simp [Ne.symm c]
  · rw [List.getElem?_eq_none (show (List.range n).length ≤ i by rw [List.length_range]; omega)]
    by_cases c : a = i
    · rw [if_pos c, if_neg (by omega)]; rfl
    · rw [if_neg c]; rfl
/-- g swaps places; it stays where the drawn places from 2 i on are -/
structure Swp (mx : List Nat) (n i : Nat) (g : Nat → Nat) : Prop where
  lt : ∀ x, x < n → g x < n
  inv : ∀ x, x < n → g (g x) = x
  rest : ∀ x ∈ mx.drop (2 * i), g x = x
def swp (g : Nat → Nat) (a b : Nat) : Nat → Nat := fun x => if x = b then a else if x = a then b else g x
theorem Swp.start {mx : List Nat} {n : Nat} : Swp mx n 0 id := ⟨fun _ h => h, fun _ _ => rfl, fun _ _ => rfl⟩
theorem Swp.more {mx : List Nat} {n i a b : Nat} {g : Nat → Nat} (S : Swp mx n i g) (hm : IsPerm mx) (hl : mx.length = n) (ha : mx[2 * i]? = some a) (hb : mx[2 * i + 1]? = some b) : Swp mx n (i + 1) (swp g a b) := by
  obtain ⟨h1, e1⟩ := List.getElem?_eq_some_iff.mp ha
  obtain ⟨h2, e2⟩ := List.getElem?_eq_some_iff.mp hb
  have han : a < n := by rw [← hl]; exact hm.lt a (List.mem_of_getElem? ha)
  have hbn : b < n := by rw [← hl]; exact hm.lt b (List.mem_of_getElem? hb)
  have hab : a ≠ b := fun e => by
    rw [← e1, ← e2] at e
    have := (List.getElem_inj hm.nd).mp e
    omega
  have mem : ∀ j x, mx[j]? = some x → 2 * i ≤ j → x ∈ mx.drop (2 * i) := fun j x hx hj => by
    refine List.mem_of_getElem? (i := j - 2 * i) ?_
    rw [List.getElem?_drop, show 2 * i + (j - 2 * i) = j by omega]
    exact hx
  have ga : g a = a := S.rest a (mem _ _ ha (by omega))
  have gb : g b = b := S.rest b (mem _ _ hb (by omega))
  have gne : ∀ x, x < n → x ≠ a → x ≠ b → g x ≠ a ∧ g x ≠ b := fun x hx hxa hxb =>
    ⟨fun e => hxa (by have := S.inv x hx; rw [e, ga] at this; exact this.symm), fun e => hxb (by have := S.inv x hx; rw [e, gb] at this; exact this.symm)⟩
  refine ⟨fun x hx => ?_, fun x hx => ?_, fun x hx => ?_⟩
  · unfold swp
    split
    · exact han
    · split
      · exact hbn
      · exact S.lt x hx
  · unfold swp
    by_cases c1 : x = b
    · subst c1
      rw [if_pos rfl, if_neg hab, if_pos rfl]
    · rw [if_neg c1]
      by_cases c2 : x = a
      · subst c2
        rw [if_pos rfl, if_pos rfl]
      · obtain ⟨n1, n2⟩ := gne x hx c2 c1
        rw [if_neg c2, if_neg n2, if_neg n1]
        exact S.inv x hx
  · obtain ⟨j, hj⟩ := List.mem_iff_getElem?.mp hx
    rw [List.getElem?_drop] at hj
    have hx' : mx[2 * (i + 1) + j]? = some x := hj
    obtain ⟨h3, e3⟩ := List.getElem?_eq_some_iff.mp hx'
    have n1 : x ≠ a := fun e => by
      rw [← e3, ← e1] at e
      have := (List.getElem_inj hm.nd).mp e
      omega
    have n2 : x ≠ b := fun e => by
      rw [← e3, ← e2] at e
      have := (List.getElem_inj hm.nd).mp e
      omega
    unfold swp
    rw [if_neg n2, if_neg n1]
    exact S.rest x (mem _ _ hx' (by omega))
theorem Swp.perm {mx : List Nat} {n i : Nat} {g : Nat → Nat} (S : Swp mx n i g) : PermF g n := ⟨S.lt, fun x y hx hy e => by rw [← S.inv x hx, ← S.inv y hy, e]⟩
theorem swp_list (g : Nat → Nat) (n a b : Nat) : (((List.range n).map g).set a b).set b a = (List.range n).map (swp g a b) := by
  rw [map_set, map_set]
  rfl
/-- all places are led back -/
def swB (im : List Nat) : Bool := (List.range im.length).all fun p => decide (ap im (ap im p) = p)
def mvB (im : List Nat) : Bool := (List.range im.length).all fun p => decide (ap im p ≠ p)
/-! ### the least multiple -/
theorem lcm_of_le {a b k : Nat} (ha : 0 < a) (h : b ∣ k * a) (hk : 0 < k) (hmin : ∀ j, 0 < j → j < k → ¬ b ∣ j * a) : k * a = Nat.lcm a b := by
  have h1 : Nat.lcm a b ∣ k * a := Nat.lcm_dvd (Nat.dvd_mul_left a k) h
  obtain ⟨c, hc⟩ := Nat.dvd_lcm_left a b
  have hb : 0 < b := by
    rcases Nat.eq_zero_or_pos b with z | z
    · subst z
      have := Nat.eq_zero_of_zero_dvd h
      have := Nat.mul_pos hk ha
      omega
    · exact z
  have hl : 0 < Nat.lcm a b := Nat.lcm_pos ha hb
  have hcpos : 0 < c := by
    rcases Nat.eq_zero_or_pos c with z | z
    · rw [z, Nat.mul_zero] at hc; omega
    · exact z
  have hck : c ≤ k := by
    have := Nat.le_of_dvd (Nat.mul_pos hk ha) h1
    rw [hc, Nat.mul_comm a c] at this
    exact Nat.le_of_mul_le_mul_right this ha
  rcases Nat.lt_or_ge c k with z | z
  · exfalso
    refine hmin c hcpos z ?_
    rw [Nat.mul_comm, ← hc]
    exact Nat.dvd_lcm_right a b
  · have : k = c := by omega
    rw [this, Nat.mul_comm, ← hc]
end TW

namespace TW
/-! ### powers, of either sign -/
/-- g is f's way back below n -/
structure BackF (f g : Nat → Nat) (n : Nat) : Prop where
  lt : ∀ y, y < n → g y < n
  eq : ∀ y, y < n → f (g y) = y
def zit (f g : Nat → Nat) (k : Int) (x : Nat) : Nat := if 0 ≤ k then it f k.toNat x else it g k.natAbs x
theorem BackF.it_lt {f g : Nat → Nat} {n : Nat} (B : BackF f g n) (k : Nat) {x : Nat} (h : x < n) : it g k x < n := by
  induction k with
  | zero => exact h
  | succ k ih => exact B.lt _ ih
theorem BackF.it_eq {f g : Nat → Nat} {n : Nat} (B : BackF f g n) : ∀ (k : Nat) {x : Nat}, x < n → it f k (it g k x) = x
  | 0, x, _ => rfl
  | k + 1, x, h => by
    rw [it_succ' f]
    show it f k (f (g (it g k x))) = x
    rw [B.eq _ (B.it_lt k h)]
    exact B.it_eq k h
theorem zit_lt {f g : Nat → Nat} {n : Nat} (P : PermF f n) (B : BackF f g n) (k : Int) {x : Nat} (h : x < n) : zit f g k x < n := by
  unfold zit
  by_cases c : 0 ≤ k
  · rw [if_pos c]; exact P.it_lt _ h
  · rw [if_neg c]; exact B.it_lt _ h
theorem zit_perm {f g : Nat → Nat} {n : Nat} (P : PermF f n) (B : BackF f g n) (k : Int) : PermF (zit f g k) n where
  lt x h := zit_lt P B k h
  inj x y hx hy e := by
    unfold zit at e
    by_cases c : 0 ≤ k
    · rw [if_pos c, if_pos c] at e
      exact P.it_inj _ hx hy e
    · rw [if_neg c, if_neg c] at e
      have := congrArg (it f k.natAbs) e
      rw [B.it_eq _ hx, B.it_eq _ hy] at this
      exact this
theorem it_fix {f : Nat → Nat} {x : Nat} (h : f x = x) : ∀ k, it f k x = x
  | 0 => rfl
  | k + 1 => by show f (it f k x) = x; rw [it_fix h k, h]
theorem zit_fix {f g : Nat → Nat} {n : Nat} (P : PermF f n) (B : BackF f g n) (k : Int) {x : Nat} (hx : x < n) (h : f x = x) : zit f g k x = x := by
  unfold zit
  by_cases c : 0 ≤ k
  · rw [if_pos c, it_fix h]
  · rw [if_neg c]
    refine it_fix (P.inj _ _ (B.lt _ hx) hx ?_) _
    rw [B.eq _ hx, h]
/-- a place's way along its ring -/
theorem ring_shift {f g : Nat → Nat} {n p : Nat} (P : PermF f n) (B : BackF f g n) (hp : p < n) (k : Int) (a : Nat) : it f (((a : Int) + k) % (per f n p : Nat)).toNat p = zit f g k (it f a p) := by
  have L0 : 0 < per f n p := (per_spec P hp).1
  have nn := Int.emod_nonneg ((a : Int) + k) (show ((per f n p : Nat) : Int) ≠ 0 by omega)
  unfold zit
  by_cases c : 0 ≤ k
  · rw [if_pos c, ← it_add]
    rw [per_mod P hp (k.toNat + a)]
    congr 1
    have e : (a : Int) + k = ((k.toNat + a : Nat) : Int) := by omega
    rw [e, ← Int.natCast_emod, Int.toNat_natCast]
  · rw [if_neg c]
    refine P.it_inj k.natAbs (P.it_lt _ hp) (B.it_lt _ (P.it_lt _ hp)) ?_
    rw [B.it_eq _ (P.it_lt _ hp), ← it_add, per_mod P hp, per_mod P hp a]
    congr 1
    have e1 : ((k.natAbs + (((a : Int) + k) % (per f n p : Nat)).toNat : Nat) : Int) = k.natAbs + ((a : Int) + k) % (per f n p : Nat) := by omega
    have e2 : (((k.natAbs + (((a : Int) + k) % (per f n p : Nat)).toNat) % per f n p : Nat) : Int) = ((a % per f n p : Nat) : Int) := by
      rw [Int.natCast_emod, e1, Int.natCast_emod, Int.add_emod_emod]
      congr 1
      omega
    exact Int.ofNat.inj e2
/-! ### the list of the way back -/
def backL (im : List Nat) : List Nat := (List.range im.length).map fun y => im.idxOf y
theorem perm_mem {im : List Nat} (h : IsPerm im) {y : Nat} (hy : y < im.length) : y ∈ im := by
  apply Classical.byContradiction
  intro hn
  have : (y :: im).Nodup := List.nodup_cons.mpr ⟨hn, h.nd⟩
  have := nodup_le im.length (y :: im) this (fun x hx => by
    rcases List.mem_cons.mp hx with e | e
    · rw [e]; exact hy
    · exact h.lt _ e)
  rw [List.length_cons] at this
  omega
theorem ap_map {n : Nat} {f : Nat → Nat} {x : Nat} (h : x < n) : ap ((List.range n).map f) x = f x := by
  unfold ap
  rw [List.getD_eq_getElem?_getD, List.getElem?_map, List.getElem?_range h]
  rfl
theorem back_back {im : List Nat} (h : IsPerm im) : BackF (ap im) (ap (backL im)) im.length where
  lt y hy := by
    unfold backL
    rw [ap_map hy]
    exact List.idxOf_lt_length_of_mem (perm_mem h hy)
  eq y hy := by
    unfold backL
    rw [ap_map hy]
    have hl := List.idxOf_lt_length_of_mem (perm_mem h hy)
    have := ap_get hl
    rw [List.getElem?_eq_getElem hl, List.getElem_idxOf] at this
    exact (Option.some.inj this).symm
theorem backL_len (im : List Nat) : (backL im).length = im.length := by unfold backL; rw [List.length_map, List.length_range]
theorem back_unique {f g h : Nat → Nat} {n : Nat} (P : PermF f n) (B : BackF f g n) (hl : ∀ y, y < n → h y < n) (he : ∀ y, y < n → f (h y) = y) {y : Nat} (hy : y < n) : h y = g y :=
  P.inj _ _ (hl y hy) (B.lt y hy) (by rw [he y hy, B.eq y hy])
/-- one behind the other -/
def behind (im jm : List Nat) : List Nat := im.map (ap jm)
theorem behind_len (im jm : List Nat) : (behind im jm).length = im.length := List.length_map _
theorem behind_eq (im jm : List Nat) : behind im jm = (List.range im.length).map fun x => ap jm (ap im x) := by
  have e := im_eq im
  unfold behind
  conv => lhs; rw [← e]
  rw [List.map_map]
  rfl
theorem behind_perm {im jm : List Nat} (h : IsPerm im) (j : IsPerm jm) (e : jm.length = im.length) : IsPerm (behind im jm) := by
  rw [behind_eq]
  refine isPerm_of_graph ⟨fun x hx => ?_, fun x y hx hy z => ?_⟩
  · have := j.perm.lt _ (show ap im x < jm.length by rw [e]; exact h.perm.lt x hx)
    rw [e] at this
    exact this
  · exact h.perm.inj _ _ hx hy (j.perm.inj _ _ (by rw [e]; exact h.perm.lt x hx) (by rw [e]; exact h.perm.lt y hy) z)
/-- the power of a map -/
def timesL (im : List Nat) (k : Int) : List Nat := (List.range im.length).map (zit (ap im) (ap (backL im)) k)
theorem timesL_len (im : List Nat) (k : Int) : (timesL im k).length = im.length := by unfold timesL; rw [List.length_map, List.length_range]
theorem timesL_perm {im : List Nat} (h : IsPerm im) (k : Int) : IsPerm (timesL im k) := isPerm_of_graph (zit_perm h.perm (back_back h) k)
theorem timesL_zero (im : List Nat) : timesL im 0 = List.range im.length := by
  unfold timesL zit
  apply List.ext_getElem?
  intro i
  rw [List.getElem?_map]
  by_cases c : i < im.length
  · rw [List.getElem?_range c]; rfl
  · rw [List.getElem?_eq_none (by rw [List.length_range]; omega)]; rfl
theorem timesL_one (im : List Nat) : timesL im 1 = im := by
  have e := im_eq im
  conv => rhs; rw [← e]
  rfl
theorem timesL_back {im : List Nat} (h : IsPerm im) : timesL im (-1) = backL im := by
  have e := im_eq (backL im)
  rw [backL_len] at e
  conv => rhs; rw [← e]
  rfl
end TW

namespace TW
/-! ### rings begun elsewhere -/
def rotl (r : List Nat) (t : Nat) : List Nat := r.drop t ++ r.take t
theorem rotl_len (r : List Nat) (t : Nat) : (rotl r t).length = r.length := by
  unfold rotl
  rw [List.length_append, List.length_drop, List.length_take]
  omega
theorem rotl_get {r : List Nat} {t i : Nat} (ht : t ≤ r.length) (hi : i < r.length) : (rotl r t)[i]? = r[(i + t) % r.length]? := by
  unfold rotl
  by_cases c : i + t < r.length
  · rw [List.getElem?_append_left (by rw [List.length_drop]; omega), List.getElem?_drop, Nat.mod_eq_of_lt c, Nat.add_comm]
  · rw [List.getElem?_append_right (by rw [List.length_drop]; omega), List.length_drop, List.getElem?_take_of_lt (by omega)]
    have e : (i + t) % r.length = i + t - r.length := by
      rw [Nat.mod_eq_sub_mod (by omega), Nat.mod_eq_of_lt (by omega)]
    rw [e]
    congr 1
    omega
theorem follows_rotl {f : Nat → Nat} {r : List Nat} {t : Nat} (h : Follows f r) (ht : t ≤ r.length) : Follows f (rotl r t) := by
  have h' := follows_iff.mp h
  refine follows_iff.mpr ?_
  show rotl (rotl r t) 1 = _
  apply List.ext_getElem?
  intro i
  by_cases c : i < r.length
  · have L : 0 < r.length := by omega
    have a : (rotl (rotl r t) 1)[i]? = r[((i + t) % r.length + 1) % r.length]? := by
      rw [rotl_get (by rw [rotl_len]; omega) (by rw [rotl_len]; exact c), rotl_len, rotl_get ht (Nat.mod_lt _ L)]
      congr 1
      rw [Nat.mod_add_mod, Nat.mod_add_mod]
      congr 1
      omega
    have b := congrArg (fun l => l[(i + t) % r.length]?) h'
    have b' : (rotl r 1)[(i + t) % r.length]? = (r.map f)[(i + t) % r.length]? := b
    rw [rotl_get (by omega) (Nat.mod_lt _ L)] at b'
    rw [a, b', List.getElem?_map, List.getElem?_map, rotl_get ht c]
  · rw [List.getElem?_eq_none (by rw [rotl_len, rotl_len]; omega), List.getElem?_eq_none (by rw [List.length_map, rotl_len]; omega)]
theorem rotl_perm (r : List Nat) (t : Nat) : (rotl r t).Perm r := by
  unfold rotl
  have : (r.drop t ++ r.take t).Perm (r.take t ++ r.drop t) := List.perm_append_comm
  rw [List.take_append_drop] at this
  exact this
theorem flatten_perm {rs ss : List (List Nat)} (h : rs.length = ss.length) (hp : ∀ (i : Nat) (r s : List Nat), rs[i]? = some r → ss[i]? = some s → r.Perm s) : rs.flatten.Perm ss.flatten := by
  induction rs generalizing ss with
  | nil =>
    cases ss with
    | nil => exact .nil
    | cons s ss => cases h
  | cons r rs ih =>
    cases ss with
    | nil => cases h
    | cons s ss =>
      rw [List.flatten_cons, List.flatten_cons]
      refine (hp 0 r s rfl rfl).append (ih (by simpa using h) fun i a b h1 h2 => hp (i + 1) a b ?_ ?_)
      · rw [List.getElem?_cons_succ]; exact h1
      · rw [List.getElem?_cons_succ]; exact h2
/-- the rings of one place -/
def singles (f : Nat → Nat) (n : Nat) : List (List Nat) := ((List.range n).filter fun x => decide (f x = x)).map fun x => [x]
theorem singles_flat (f : Nat → Nat) (n : Nat) : (singles f n).flatten = (List.range n).filter fun x => decide (f x = x) := by
  unfold singles
  generalize (List.range n).filter (fun x => decide (f x = x)) = l
  induction l with
  | nil => rfl
  | cons x l ih => rw [List.map_cons, List.flatten_cons, ih]; rfl
theorem follows_single {f : Nat → Nat} {x : Nat} (h : f x = x) : Follows f [x] := by
  refine follows_iff.mpr ?_
  show [x] = [f x]
  rw [h]
theorem mem_rings_moves {f : Nat → Nat} {n x : Nat} (P : PermF f n) (h : x ∈ (rings f n).flatten) : f x ≠ x := by
  obtain ⟨r, hr, hx⟩ := List.mem_flatten.mp h
  obtain ⟨p, hp, rfl⟩ := List.mem_map.mp hr
  have hp' := mem_heads.mp hp
  obtain ⟨k, hk⟩ := (mem_ring P hp'.1).mp hx
  intro e
  have h2 : it f k (f p) = it f k p := by rw [← it_succ' f, show it f (k + 1) p = f (it f k p) from rfl, hk, e]
  exact hp'.2.2 (P.it_inj k (P.lt _ hp'.1) hp'.1 h2)
end TW

namespace TW
open PySem PySem.Spec PyProof.Rows L2
/-! ### dict(enumerate(list)) -/
/-- the places from k on, to the values -/
def enumKV : Nat → List V → List (Key × V)
  | _, [] => []
  | k, x :: xs => (Sum.inl (k : Int), x) :: enumKV (k + 1) xs
theorem enumKV_get : ∀ (xs : List V) (k i : Nat), (enumKV k xs)[i]? = (xs[i]?).map fun x => (Sum.inl ((k + i : Nat) : Int), x)
  | [], k, i => by simp [enumKV]
  | x :: xs, k, 0 => by simp [enumKV]
  | x :: xs, k, i + 1 => by
    show (enumKV (k + 1) xs)[i]? = _
    rw [enumKV_get xs (k + 1) i, show k + 1 + i = k + (i + 1) by omega]
    rfl
def enumKW : Nat → List Value → List (Key × Value)
  | _, [] => []
  | k, x :: xs => (Sum.inl (k : Int), x) :: enumKW (k + 1) xs
theorem enumKW_len : ∀ (xs : List Value) (k : Nat), (enumKW k xs).length = xs.length
  | [], _ => rfl
  | _ :: xs, k => congrArg Nat.succ (enumKW_len xs (k + 1))
theorem enumKW_get : ∀ (xs : List Value) (k i : Nat), (enumKW k xs)[i]? = (xs[i]?).map fun x => (Sum.inl ((k + i : Nat) : Int), x)
  | [], k, i => by simp [enumKW]
  | x :: xs, k, 0 => by simp [enumKW]
  | x :: xs, k, i + 1 => by
    show (enumKW (k + 1) xs)[i]? = _
    rw [enumKW_get xs (k + 1) i, show k + 1 + i = k + (i + 1) by omega]
    rfl
theorem enumK_rel : ∀ {xs : List V} {us : List Value} (k : Nat), Vals xs us → KV (enumKV k xs) (enumKW k us)
  | _, _, _, .nil => .nil
  | _, _, k, .cons r t => .cons ⟨rfl, r⟩ (enumK_rel (k + 1) t)
section
variable {X : Cx}
def tDictEnum (K : PySem.W.Frag) (ta : TE) : TE := fun σ H Q => ta σ H fun x H1 => ∃ a xs, x = .ref a ∧ SqL K H1 a xs ∧ ∀ p, H1 p = none → Q (.ref p) (upd H1 p (.dK (mergeK [] (enumKV 0 xs))))
theorem pe_dictEnum {e : Expr} {ta : TE} {p p2 pos pos2 : Pos} (hc : X.calm = true) (hg : Gl X "dict") (hm : X.mg "dict" = none) (hg2 : Gl X "enumerate") (hm2 : X.mg "enumerate" = none) (ha : PE X e ta)
    (n1 : starEach [.Call (.Name "enumerate" p2) [e] [] pos2] X.env = (false, eval (.Call (.Name "enumerate" p2) [e] [] pos2) X.env) :: starEach [] X.env := by rfl)
    (n2 : starEach [e] X.env = (false, eval e X.env) :: starEach [] X.env := by rfl) :
    PE X (.Call (.Name "dict" p) [.Call (.Name "enumerate" p2) [e] [] pos2] [] pos) (tDictEnum X.K ta) := by
  refine ⟨fun pins s σ H Q I h => ?_⟩
  refine Call_ (ld_blt I hg hm boot_dict (PyProof.Rows.callWith_type1 (args_cons ?_ n1) n1))
  refine Call_ (ld_blt I hg2 hm2 boot_enumerate (PyProof.Rows.callWith_type1 (one_arg ha I h (fun v s1 x H1 I1 r1 q1 => ?_) n2) n2))
  obtain ⟨a, xs, ex, hq, q⟩ := q1
  subst ex
  cases r1
  obtain ⟨its, rv, pl, hz⟩ := I1.list hq
  have hal : a < s1.heap.objs.size := by obtain ⟨_, q, _⟩ := pl.isList; exact Heap.lt_size q
  refine call_enumerate_list pl.isList fun h' he hit hsz hk => args_nil ?_
  have P := PySem.PairArg.enumerate (prog := X.prog) (w := X.w) (s1.heap.objs.size + 1) s1.heap.objs.size a (Nat.succ_ne_self _) (Nat.ne_of_lt (Nat.lt_succ_of_lt hal)) (Nat.ne_of_lt hal) its.toArray
  have I2 : Inv X pins σ H1 { s1 with heap := h' } := I1.kept (t' := s1.toks) hk
  refine PySem.call_dict_pairs (s := { s1 with heap := h' }) (knd := mixKind X.prog X.w) (kvs := enumKW 0 its) P (I.ok.hd hc) ⟨⟨_, he⟩, hit, pl.isList.at fun o q => hk _ o q⟩ ⟨?_, ?_⟩ ?_ ?_
  · rw [enumKW_len]; simp
  · rintro i key v ⟨⟨t, rfl⟩, hv⟩
    refine ⟨Sum.inl (i : Int), ?_, mixKind_int X.prog X.w _ _⟩
    rw [enumKW_get]
    have : its[i]? = some v := by simpa using hv
    rw [this, Nat.zero_add]
    rfl
  · simpa [← rv.length] using hz
  · intro h2 tk hd hk2
    have hbig : (h'.objs.size == sysModules) = false := beq_eq_false_iff_ne.mpr (Nat.ne_of_gt I2.big)
    have hlen : (mergeK [] (enumKV 0 xs)).length ≤ sizeLine := by
      refine Nat.le_trans (length_mergeK _ []) ?_
      rw [List.length_nil, Nat.zero_add, (enumK_rel 0 rv).length, enumKW_len, ← rv.length]
      exact hz
    have keep : ∀ b u, s1.heap.get? b = some u → h2.get? b = some u := fun b u e => by
      refine hk2 b u (fun hb => ?_) (hk b u e)
      have hbl := Heap.lt_size e
      have : b = s1.heap.objs.size + 1 ∨ b = s1.heap.objs.size := by simpa using hb
      rcases this with e' | e'
      · rw [e'] at hbl; exact absurd hbl (Nat.not_lt.mpr (Nat.le_succ _))
      · rw [e'] at hbl; exact absurd hbl (Nat.lt_irrefl _)
    have dk : ObjOk X.prog X.w (upd H1 h'.objs.size (.dK (mergeK [] (enumKV 0 xs)))) h2 h'.objs.size (.dK (mergeK [] (enumKV 0 xs))) :=
      ⟨hlen, hbig, merged [] (enumKW 0 its), KV.merge (enumK_rel 0 rv) .nil, hd⟩
    refine ⟨.ref h'.objs.size, _, I1.laid (t' := tk) keep (by omega) dk, rfl, q _ (I2.hok.fresh (Nat.le_refl _))⟩
end
end TW

namespace TW
open PySem PySem.Spec PyProof.Rows L2
section
variable {X : Cx}
/-- lcm(a, b) -/
def rLcm : List V → Hp → VK → Prop := fun vs H Q => ∃ a b : Nat, vs = [.int (a : Int), .int (b : Int)] ∧ a < 2 ^ 64 ∧ b < 2 ^ 64 ∧ Q (.int ((Nat.lcm a b : Nat) : Int)) H
theorem cr_lcm : CallR X (.builtin "math.lcm") rLcm := by
  intro pins s σ H vs us Q I r h
  obtain ⟨a, b, rfl, ha, hb, q⟩ := h
  obtain ⟨t, u, rfl⟩ := Vals.int2 r
  have e : (((Nat.lcm 1 (a : Int).natAbs).lcm (b : Int).natAbs : Nat) : Int) = ((Nat.lcm a b : Nat) : Int) := by
    rw [Int.natAbs_natCast, Int.natAbs_natCast, Nat.lcm_one_left]
  refine PySem.W.mg_lcm_v (by rw [Int.natAbs_natCast]; exact ha) (by rw [Int.natAbs_natCast]; exact hb) e ?_ ⟨.int _, H, I.tok _, ⟨_, rfl⟩, q⟩
  rw [Int.natAbs_natCast]
  have h1 : Nat.lcm a b < 2 ^ 128 := by
    refine Nat.lt_of_le_of_lt (Nat.div_le_self _ _) ?_
    calc a * b ≤ a * 2 ^ 64 := Nat.mul_le_mul_left _ (Nat.le_of_lt hb)
      _ < 2 ^ 64 * 2 ^ 64 := by omega
      _ = 2 ^ 128 := by decide
  rw [bitsLine_eq]
  by_cases z : Nat.lcm a b = 0
  · rw [z]; decide
  · exact Nat.lt_trans ((Nat.log2_lt z).mpr h1) (by decide)
end
/-! ### defs, methods, classes with their promises -/
section
variable (P : Program) (w : World) (K : PySem.W.Frag) (mg : Str → Option Value) (base : Heap)
/-- the def that the module's name x holds keeps sp; dvs: the defaults that fill up -/
def DefOk (CX : CXT) (k : Nat) (x : Str) (ps : List Str) (dvs : List V) (sp : Sp) : Prop :=
  ∃ (f : Addr) (fd : FuncData) (ds : List Value), mg x = some (.ref f) ∧ PySem.W.keepIn K (.ref f) = true ∧ Binds K fd ps ds ∧ Vals dvs ds ∧ FnOk P w K mg base CX k f fd ps sp
/-- the method m of the class at C -/
def MethOk (CX : CXT) (k : Nat) (C : Addr) (m : Str) (ps : List Str) (dvs : List V) (sp : Sp) : Prop :=
  ∃ (f : Addr) (fd : FuncData) (ds : List Value), Meth K C m f ∧ Binds K fd ps ds ∧ Vals dvs ds ∧ FnOk P w K mg base CX k f fd ps sp
/-- the class at C, by the module's name x, its __init__ -/
def MakeOk (CX : CXT) (k : Nat) (C : Addr) (x : Str) (ps : List Str) (dvs : List V) (sp : Sp) : Prop :=
  mg x = some (.ref C) ∧ ∃ (f : Addr) (fd : FuncData) (ds : List Value), Mk K C f ∧ Binds K fd ps ds ∧ Vals dvs ds ∧ FnOk P w K mg base CX k f fd ps sp
end
section
variable {X : Cx} {CX : CXT} {k k' : Nat} {ps : List Str} {sp : Sp} {dvs : List V} {E : XK} {x m : Str} {p pos apos : Pos} {e o : Expr} {es : List Expr} {ta : TE} {t : TA} {C : Addr}
theorem pe_d (D : DefOk X.prog X.w X.K X.mg X.base CX k x ps dvs sp) (hr : Room k' X.A) (hx : Passes CX X E) (ha : PA X (e :: es) t) (hk : k ≤ k' := by decide) (hg : Gl X x := by rfl) (hdb : (x == ("__debug__" : Str)) = false := by decide)
    (he : starEach (e :: es) X.env = (false, eval e X.env) :: starEach es X.env := by rfl) (hpl : (backTo pos (starEach es X.env)).any (·.1) = false := by rfl) :
    PE X (.Call (.Name x p) (e :: es) [] pos) (tCall sp dvs E t) := by
  obtain ⟨f, fd, ds, hm, kp, hb, hd, F⟩ := D
  exact pe_call F (hr.mono hk) hg hm kp hb hd hx ha hdb he hpl
theorem pe_m {pl : Sem Bool} (D : MethOk X.prog X.w X.K X.mg X.base CX k C m ps dvs sp) (c : Cls X.K C) (hr : Room k' X.A) (hx : Passes CX X E) (he : PE X o ta) (ha : PA X (e :: es) t) (hk : k ≤ k' := by decide)
    (hst : starEach (e :: es) X.env = (false, eval e X.env) :: starEach es X.env := by rfl) (hpl : (backTo pos (starEach es X.env)).any (·.1) = false := by rfl)
    (ht : eval (.Call (.Attribute o m apos) (e :: es) [] pos) X.env = (do
      let ov ← eval o X.env
      standAt apos.atName
      let (f, first) ← holding [ov] (getMethod ov m pl)
      callWith pos f first (backTo pos (starEach (e :: es) X.env)) (backToKw pos (keywordEach [] X.env))) := by rfl) :
    PE X (.Call (.Attribute o m apos) (e :: es) [] pos) (tMeth C m sp dvs E ta t) := by
  obtain ⟨f, fd, ds, hm, hb, hd, F⟩ := D
  exact pe_meth he c hm F (hr.mono hk) hb hd hx ha hst hpl ht
theorem pe_m0 {pl : Sem Bool} (D : MethOk X.prog X.w X.K X.mg X.base CX k C m ps dvs sp) (c : Cls X.K C) (hr : Room k' X.A) (hx : Passes CX X E) (he : PE X o ta) (hk : k ≤ k' := by decide)
    (ht : eval (.Call (.Attribute o m apos) [] [] pos) X.env = (do
      let ov ← eval o X.env
      standAt apos.atName
      let (f, first) ← holding [ov] (getMethod ov m pl)
      callWith pos f first (backTo pos (starEach [] X.env)) (backToKw pos (keywordEach [] X.env))) := by rfl) :
    PE X (.Call (.Attribute o m apos) [] [] pos) (tMeth C m sp dvs E ta tNil) := by
  obtain ⟨f, fd, ds, hm, hb, hd, F⟩ := D
  exact pe_meth0 he c hm F (hr.mono hk) hb hd hx ht
theorem pe_mk' (D : MakeOk X.prog X.w X.K X.mg X.base CX k C x ps dvs sp) (hr : Room k' X.A) (hx : Passes CX X E) (ha : PA X (e :: es) t) (hk : k + 1 ≤ k' := by decide) (hg : Gl X x := by rfl) (hdb : (x == ("__debug__" : Str)) = false := by decide)
    (he : starEach (e :: es) X.env = (false, eval e X.env) :: starEach es X.env := by rfl) (hpl : (backTo pos (starEach es X.env)).any (·.1) = false := by rfl) :
    PE X (.Call (.Name x p) (e :: es) [] pos) (tMake C sp dvs E t) := by
  obtain ⟨hm, f, fd, ds, M, hb, hd, F⟩ := D
  exact pe_make M F (hr.mono hk) hg hm hb hd hx ha hdb he hpl
end
end TW

namespace TW
open PySem PySem.Spec PyProof.Rows L2
/-! ### errors with one attribute, held as values -/
section
variable (P : Program) (w : World) (K : PySem.W.Frag) (mg : Str → Option Value) (base : Heap)
/-- what __init__ of such a class does: the attribute f is the second value -/
def spErr (C : Addr) (f : Str) : Sp := fun vs H Q _ => ∃ (a : Addr) (v : V), vs = [.ref a, v] ∧ H a = some (exo a C none) ∧ ∀ d, H d = none → d ≠ a → Q .non (upd (upd H d (exd d [(f, v)])) a (exo a C (some d)))
structure ErrC (C : Addr) : Prop where
  oex : OexC K C
  xf : XfC K C
  kc : ExcC K C
/-- the error class at C, by the module's name x; its attribute f -/
def ErrOk (CX : CXT) (k : Nat) (C : Addr) (x f p : Str) : Prop :=
  ErrC K C ∧ mg x = some (.ref C) ∧ ∃ (fI : Addr) (fd : FuncData), PySem.W.findIn K (.ref C) "__init__" = some (some (.ref fI)) ∧ PySem.W.typeIn K (.ref fI) = some (.type "function") ∧ Binds K fd ["self", p] [] ∧
    FnOk P w K mg base CX k fI fd ["self", p] (spErr C f)
end
section
variable {X : Cx} {CX : CXT} {k k' : Nat} {C : Addr} {x f q : Str} {e : Expr} {te : TE} {p pos : Pos}
def tErr (C : Addr) (f : Str) (te : TE) : TE := fun σ H Q => te σ H fun v H1 => ∀ (a d : Addr) (H' : Hp), Same H1 H' → H1 a = none → H1 d = none → H' a = some (exo a C (some d)) → H' d = some (exd d [(f, v)]) → Q (.ref a) H'
theorem pe_err (D : ErrOk X.prog X.w X.K X.mg X.base CX k C x f q) (hr : Room k' X.A) (hx : Passes CX X (fun _ _ _ => False)) (he : PE X e te) (hk : k + 1 ≤ k' := by decide) (hg : Gl X x := by rfl)
    (hdb : (x == ("__debug__" : Str)) = false := by decide) (hs : starEach [e] X.env = (false, eval e X.env) :: starEach [] X.env := by rfl) (hpl : (backTo pos (starEach [] X.env)).any (·.1) = false := by rfl) :
    PE X (.Call (.Name x p) [e] [] pos) (tErr C f te) := by
  obtain ⟨T, hm, fI, fd, iC, tI, hb, F1⟩ := D
  refine ⟨fun pins s σ H Q I h => ?_⟩
  obtain ⟨nm, q, N, bs, bm, sn, sub, ab, col, dd, k0, k1, k2, k3, k5, hC, hbm⟩ := T.oex.cls
  have hr1 := hr.mono hk
  refine wpAny_Call_Name_kw (ld_glob I hg hm ?_ hdb)
  refine PySem.W.callWith_K (h₀ := X.base) I.ok.mod.kin T.oex.kC ?_ hs hpl
  rw [hs]
  show wpAny _ _ (spliced ((false, eval e X.env) :: backTo pos (starEach [] X.env))) _ _ s
  refine Calls.spliced_cons (thn (he.run pins s σ H _ I h) fun u s1 ⟨v, H1, I1, r1, q1⟩ => ?_)
  refine Calls.spliced_nil ⟨I1.kIn, ?_⟩
  show wpAny _ _ (call (.ref C) [u]) _ _ _
  obtain ⟨hp, g, dr, tk, os⟩ := s1
  have hsz : hp.objs.size ≤ hp.objs.size + 1 := Nat.le_succ _
  have hn : H1 (hp.objs.size + 1) = none := I1.hok.fresh hsz
  have kk : ∀ b o, hp.get? b = some o → ((hp.push (PySem.W.kdv_tup [u])).push (PySem.HandSPX.excO C hp.objs.size)).get? b = some o := fun b o e => Heap.get?_push_of_some _ (Heap.get?_push_of_some _ e)
  have hget : ((hp.push (PySem.W.kdv_tup [u])).push (PySem.HandSPX.excO C hp.objs.size)).get? (hp.objs.size + 1) = some (PySem.HandSPX.excO C hp.objs.size) := by heap_get
  have I2 : Inv X pins σ (upd H1 (hp.objs.size + 1) (exo (hp.objs.size + 1) C none)) ⟨(hp.push (PySem.W.kdv_tup [u])).push (PySem.HandSPX.excO C hp.objs.size), g, dr, tk, os⟩ :=
    I1.laid (t' := tk) (a := hp.objs.size + 1) (o := exo (hp.objs.size + 1) C none) (h' := (hp.push (PySem.W.kdv_tup [u])).push (PySem.HandSPX.excO C hp.objs.size)) kk hsz (exo_ok hget)
  have r2 : Vals [V.ref (hp.objs.size + 1), v] [Value.ref (hp.objs.size + 1), u] := .cons rfl (.cons r1 .nil)
  have hus : [u].length ≤ sizeLine := by
    rw [sizeLine_eq]
    exact (by decide : 1 ≤ 16777216)
  have hsp : spErr C f [V.ref (hp.objs.size + 1), v] (upd H1 (hp.objs.size + 1) (exo (hp.objs.size + 1) C none))
      (fun v' H2 => v' = .non ∧ Q (.ref (hp.objs.size + 1)) H2) (fun _ _ _ => False) := by
    refine ⟨_, v, rfl, upd_same, fun d nd dne => ⟨rfl, ?_⟩⟩
    have nd1 : H1 d = none := by rw [upd_ne dne] at nd; exact nd
    refine q1 _ d _ ?_ hn nd1 upd_same (by rw [upd_ne dne, upd_same])
    intro b o hb
    rw [upd_ne (ne_of_none hb hn), upd_ne (ne_of_none hb nd1), upd_ne (ne_of_none hb hn)]
    exact hb
  refine wpAny_call (PySem.HandSPX.call_own F.excBase_ValueError (fun Y => PySem.HandSPX.refsVE_contains Y bm hbm) (I1.kIn _ _ hC) (PySem.W.looks_findIn I1.kIn iC) (fun self => PySem.W.bind_fn I1.kIn self tI) hus
    (codeAny_mono (F1.run _ X.stack _ _ ⟨[Value.ref (hp.objs.size + 1), u], []⟩ [Value.ref (hp.objs.size + 1), u] _ _ (fun _ _ _ => False) (hr1.make C [u] []) (I2.env0.make C [u] []) (by have z := hb _ [Value.ref (hp.objs.size + 1), u] I2.kIn rfl; exact z) r2 hsp) fun r s' hq' => ?_))
  cases r with
  | error er => exact hx pins σ _ _ er s' I2 hq'
  | ok fl =>
    cases fl with
    | ret u' =>
      obtain ⟨v', H2, os2, bare2, un2, hok2, rv, ev, q2⟩ := hq'
      subst ev
      obtain ⟨h2, g2, d2, t2, os'⟩ := s'
      exact ⟨rv, .ref (hp.objs.size + 1), H2, I2.call' (ch := []) os2 un2 hok2 bare2 (fun b z => absurd z (by simp)), rfl, q2⟩
    | next => exact False.elim hq'
    | brk => exact False.elim hq'
    | cont => exact False.elim hq'
/-! ### the class without own __init__, called with nothing -/
theorem pe_err0 {bmB : List Value} {B newId initId : String} (F : ExcBaseFacts B newId initId bmB) (qq : PySem.W.excIn X.K C bmB newId = true) (gC : X.mg x = some (.ref C)) (kC : PySem.W.keepIn X.K (.ref C) = true) (hg : Gl X x := by rfl)
    (hdb : (x == ("__debug__" : Str)) = false := by decide) :
    PE X (.Call (.Name x p) [] [] pos) (fun σ H Q => ∀ a, H a = none → Q (.ref a) (upd H a (exo a C none))) := by
  refine ⟨fun pins s σ H Q I h => ?_⟩
  refine wpAny_Call_Name_kw (ld_glob I hg gC ?_ hdb)
  refine PySem.W.callWith_K0 I.kIn kC ?_
  show wpAny _ _ (call (.ref C) []) _ _ _
  obtain ⟨bm, N, nm, qn, bs, hdct, sn, sub, ab, col, dd, k0, k1, k2, k3, k5, mN, hC, hN, hni, T⟩ := exc_obj I.kIn qq
  refine wpAny_call_exc_subT F T hC hN hni (fun h' a hm => ?_) (by show 0 ≤ sizeLine; exact Nat.zero_le _)
  have hn : H a = none := I.hok.gone hm.new
  obtain ⟨t, ht, _, _⟩ := hm.there
  exact ⟨.ref a, upd H a (exo a C none), I.laidN hm.keeps hm.new hn (exo_ok ht), rfl, h a hn⟩
/-! ### e.f -/
def tEf (K : PySem.W.Frag) (f : Str) (te : TE) : TE := fun σ H Q => te σ H fun x H1 => ∃ (a C d : Addr) (fs : List (Str × V)) (v : V), x = .ref a ∧ XfC K C ∧ PySem.W.findIn K (.ref C) f = some none ∧ H1 a = some (exo a C (some d)) ∧ H1 d = some (exd d fs) ∧ fs.lookup f = some v ∧ Q v H1
theorem pe_ef (he : PE X e te) (hb : attributeBase e f X.env (eval e X.env) = eval e X.env := by rfl) : PE X (.Attribute e f pos) (tEf X.K f te) := by
  refine ⟨fun pins s σ H Q I h => ?_⟩
  refine attr_of hb (thn (he.run pins s σ H _ I h) fun u s1 hh => ?_)
  obtain ⟨x, H1, I1, rx, a, C, d, fs, v, ex, T, hno, ea, ed, l, q⟩ := hh
  subst ex
  obtain rfl : u = Value.ref a := rx
  obtain ⟨t1, ho⟩ := exo_at I1.hok ea
  obtain ⟨mA, hns, hr⟩ := exd_at I1.hok ed
  obtain ⟨od, hod, hl⟩ := lookIn_ns hns
  obtain ⟨u, hu, ru⟩ := RelO.some_of (v := v) (o := mA f) (by rw [← l]; exact hr f)
  have J : PySem.W.InstAt s1.heap a { cls := .ref C, dict := some d, data := .fields #[.ref t1, .none, .none, .none, .bool false, .none] } C (some od) := ⟨ho, rfl, rfl, hod⟩
  exact HandSPX.exc_get I1.kIn J T.ga T.gg T.exC (PySem.W.findObj_own T.hdC hno rfl (by rw [hl, hu])) (handed_of ru) ⟨v, H1, I1.tok _, ru, q⟩
/-! ### isinstance -/
def rIsX (K : PySem.W.Frag) : List V → Hp → VK → Prop := fun xs H Q => ∃ (a C : Addr) (d : Option Addr) (c : V) (cv : Value) (b : Bool), xs = [.ref a, c] ∧ ExcC K C ∧ H a = some (exo a C d) ∧ (∀ dx, d = some dx → ∃ fs, H dx = some (exd dx fs)) ∧
  (∀ u, RelV c u → u = cv) ∧ PySem.W.kitOne K (.ref C) cv = some b ∧ Q (.bl b) H
theorem call_isX : CallR X (.builtin "isinstance") (rIsX X.K) := by
  intro pins s σ H xs us Q I r h
  obtain ⟨a, C, d, c, cv, b, rfl, T, ea, ed, hcv, e, q⟩ := h
  cases r with
  | cons rx rr =>
    cases rr with
    | cons rt rr =>
      cases rr
      cases rx
      have ec := hcv _ rt
      subst ec
      obtain ⟨t1, ho⟩ := exo_at I.hok ea
      have J : ∃ od, PySem.W.InstAt s.heap a { cls := .ref C, dict := d, data := .fields #[.ref t1, .none, .none, .none, .bool false, .none] } C od := by
        cases d with
        | none => exact ⟨none, ho, rfl, rfl, trivial⟩
        | some dx =>
          obtain ⟨fs, hd⟩ := ed dx rfl
          obtain ⟨mA, hns, _⟩ := exd_at I.hok hd
          obtain ⟨od, hod, _⟩ := lookIn_ns hns
          exact ⟨some od, ho, rfl, rfl, hod⟩
      obtain ⟨od, J⟩ := J
      have hcl : (PySem.W.clsIn X.K C).isSome = true := by
        obtain ⟨cd, hc, _⟩ := PySem.W.any_some T.hd
        rw [hc]; rfl
      exact PySem.W.kia_one (PySem.W.kitx_exc hcl T.hg T.hk T.hs T.ha T.hn T.ht T.hm) I.kIn J e (fun z => nomatch z) fun tk => ⟨.bl b, H, I.kept (t' := tk) fun _ _ z => z, rfl, q⟩
end
end TW

namespace TW
open PySem PySem.Spec PyProof.Rows L2
/-! ### operators of an own class -/
section
variable {M : Model} {h : Heap} {K : PySem.W.Frag} {C : Addr} {nm : String}
/-- neither the class nor object has the in-place method -/
theorem looks_noI {cd : ClassData} {add : Bool} (X : K.In h) (hc : PySem.W.clsIn K C = some cd) (hm : cd.mro = [.ref C, .type "object"]) (h1 : PySem.W.findIn K (.ref C) (dunderI nm) = some none) (h2 : PySem.W.findIn K (.type "object") (dunderI nm) = some none) :
    PySem.W.Looks M h (fillsInplaceSlot (.ref C) nm add) false := by
  intro A Q E s k q
  have Lm : PySem.W.Looks M h (mroOf (.ref C)) cd.mro := (PySem.W.looks_clsIn X hc).andThen (f := fun cd => pure cd.mro) .now
  have X' : K.In s.heap := X.keeps k
  unfold fillsInplaceSlot
  refine wpAny_bind (Lm A _ E s k ?_)
  rw [hm, List.anyM_cons]
  refine wpAny_bind (wpAny_bind (PySem.W.looks_findIn X h1 A _ E s k ?_))
  refine wpAny_pure ?_
  rw [List.anyM_cons]
  refine wpAny_bind (wpAny_bind (PySem.W.looks_findIn X h2 A _ E s k ?_))
  refine wpAny_pure ?_
  exact wpAny_pure q
end
section
variable {X : Cx} {CX : CXT} {k k' : Nat} {C : Addr} {m : Str} {ps : List Str} {sp : Sp} {E : XK}
/-- the class as the operators ask of it -/
structure OpC (K : PySem.W.Frag) (C : Addr) : Prop where
  sf : PySem.W.selfFirst K C = true
/-- x op y, both of the class -/
def rOwn (C : Addr) (sp : Sp) (E : XK) : R2 := fun x y H Q => ∃ (a b d1 d2 : Addr) (f1 f2 : List (Str × V)), x = .ref a ∧ y = .ref b ∧ H a = some (.ins C d1 f1) ∧ H b = some (.ins C d2 f2) ∧ sp [.ref a, .ref b] H (fun v H' => (∃ r, v = .ref r) ∧ Q v H') E
theorem back_ref {pins : List (Addr × Obj)} {σ : L2.St} {Q : VK} {u : Value} {s : Shared} (h : EP X pins σ (fun v H' => (∃ r, v = .ref r) ∧ Q v H') u s) : PySem.W.CmpBack (EP X pins σ Q) u s := by
  obtain ⟨v, H, I, r, ⟨p, rfl⟩, q⟩ := h
  cases r
  exact ⟨.ref p, H, I, rfl, q⟩
theorem op_own {op : Operator} (D : MethOk X.prog X.w X.K X.mg X.base CX k C m ps [] sp) (c : OpC X.K C) (hr : Room k' X.A) (hx : Passes CX X E) (hk : k ≤ k' := by decide) (hm : m = PySem.dunder op.info.2 := by rfl) : OpR X (binaryOp op) (rOwn C sp E) := by
  obtain ⟨f, fd, ds, hM, hb, hd, F⟩ := D
  intro pins s σ H x y v u Q I rx ry h
  obtain ⟨a, b, d1, d2, f1, f2, rfl, rfl, ea, eb, q⟩ := h
  cases rx
  cases ry
  obtain ⟨mA, oA, _, _, _, _⟩ := ins_get I.hok ea
  obtain ⟨mB, oB, _, _, _, _⟩ := ins_get I.hok eb
  obtain ⟨odA, IA, _⟩ := oA.look
  obtain ⟨odB, IB, _⟩ := oB.look
  obtain ⟨mf, fr⟩ := I.fr
  subst hm
  refine PySem.W.binop_K fr I.ok.mod.kin IA IB.type c.sf hM.at_ hM.fn ?_
  refine wpAny_mono (run_fn (vs := [.ref a, .ref b]) F (hr.mono hk) hb hd hx I (.cons rfl (.cons rfl .nil)) q) (fun _ _ z => back_ref z) fun _ _ z => z
/-- x op= y where the class has no in-place method -/
theorem op_ownI {op : Operator} {cd : ClassData} (D : MethOk X.prog X.w X.K X.mg X.base CX k C m ps [] sp) (c : OpC X.K C) (hc : PySem.W.clsIn X.K C = some cd) (hmro : cd.mro = [.ref C, .type "object"]) (h1 : PySem.W.findIn X.K (.ref C) (dunderI op.info.2) = some none)
    (h2 : PySem.W.findIn X.K (.type "object") (dunderI op.info.2) = some none) (hr : Room k' X.A) (hx : Passes CX X E) (hk : k ≤ k' := by decide) (hm : m = PySem.dunder op.info.2 := by rfl) : OpR X (inplaceOp op) (rOwn C sp E) := by
  obtain ⟨f, fd, ds, hM, hb, hd, F⟩ := D
  intro pins s σ H x y v u Q I rx ry h
  obtain ⟨a, b, d1, d2, f1, f2, rfl, rfl, ea, eb, q⟩ := h
  cases rx
  cases ry
  obtain ⟨mA, oA, _, _, _, _⟩ := ins_get I.hok ea
  obtain ⟨mB, oB, _, _, _, _⟩ := ins_get I.hok eb
  obtain ⟨odA, IA, _⟩ := oA.look
  obtain ⟨odB, IB, _⟩ := oB.look
  subst hm
  have XK := I.kIn
  have run := run_fn (vs := [.ref a, .ref b]) F (hr.mono hk) hb hd hx I (.cons rfl (.cons rfl .nil)) q
  unfold inplaceOp
  refine wpAny_holding ?_
  refine wpAny_bind (IA.type.here (wpAny_bind ((looks_noI XK hc hmro h1 h2).here ?_)))
  simp only [Bool.false_eq_true, if_false]
  refine wpAny_bind ?_
  unfold binaryOp1
  refine wpAny_bind (IA.type.here (wpAny_bind (IB.type.here (wpAny_bind ((PySem.W.fills_K XK hc (by rw [hmro]) hM.at_).here ?_)))))
  simp only [beq_self_eq_true, if_true]
  refine wpAny_bind (wpAny_pure ?_)
  simp only [Bool.and_false, Bool.false_eq_true, if_false, Bool.false_and]
  refine wpAny_bind (wpAny_pure ?_)
  simp only [Bool.false_eq_true, if_false]
  refine wpAny_bind (m := tryMethod (.ref a) _ (.ref b)) ?_
  unfold tryMethod
  refine wpAny_bind (PySem.W.special_fn XK IA hM.at_ (beq_iff_eq.mp hM.fn) (wpAny_mono run (fun v s' hv => ?_) fun _ _ e => e))
  have hv' := back_ref hv
  cases v <;> first | exact hv'.elim | exact wpAny_pure (wpAny_pure (wpAny_pure hv'))
/-- x op k, k an int -/
def rOwnN (C : Addr) (sp : Sp) (E : XK) : R2 := fun x y H Q => ∃ (a d1 : Addr) (f1 : List (Str × V)) (k : Int), x = .ref a ∧ y = .int k ∧ H a = some (.ins C d1 f1) ∧ sp [.ref a, .int k] H (fun v H' => (∃ r, v = .ref r) ∧ Q v H') E
theorem op_ownN {op : Operator} {fo ro : Option Value} (D : MethOk X.prog X.w X.K X.mg X.base CX k C m ps [] sp) (c : OpC X.K C) (h0 : PySem.W.findIn X.K (.ref C) (dunderR op.info.2) = some none) (h1 : fastLookup "int" (PySem.dunder op.info.2) = some fo)
    (h2 : fastLookup "int" (dunderR op.info.2) = some ro) (hr : Room k' X.A) (hx : Passes CX X E) (hk : k ≤ k' := by decide) (hm : m = PySem.dunder op.info.2 := by rfl) : OpR X (binaryOp op) (rOwnN C sp E) := by
  obtain ⟨f, fd, ds, hM, hb, hd, F⟩ := D
  intro pins s σ H x y v u Q I rx ry h
  obtain ⟨a, d1, f1, z, rfl, rfl, ea, q⟩ := h
  cases rx
  obtain ⟨t, rfl⟩ := ry
  obtain ⟨mA, oA, _, _, _, _⟩ := ins_get I.hok ea
  obtain ⟨odA, IA, _⟩ := oA.look
  obtain ⟨mf, fr⟩ := I.fr
  subst hm
  have hsub : PySem.W.subIn X.K (.type "int") (.ref C) = some false := by
    have e : fastBuiltinMro "int" = some [.type "int", .type "object"] := by decide +kernel
    show (fastBuiltinMro "int").map (·.contains (.ref C)) = _
    rw [e]
    rfl
  refine PySem.W.ksp_binT (T := "int") fr I.ok.mod.kin IA rfl c.sf hM.at_ hM.fn h0 (.inl rfl) (show PySem.W.findIn X.K (.type "int") _ = some fo from h1) (show PySem.W.findIn X.K (.type "int") _ = some ro from h2) hsub ?_
  refine wpAny_mono (run_fn (vs := [.ref a, .int z]) F (hr.mono hk) hb hd hx I (.cons rfl (.cons ⟨t, rfl⟩ .nil)) q) (fun _ _ z => back_ref z) fun _ _ z => z
/-- ~x -/
def rOwnU (C : Addr) (sp : Sp) (E : XK) : V → Hp → VK → Prop := fun x H Q => ∃ (a d1 : Addr) (f1 : List (Str × V)), x = .ref a ∧ H a = some (.ins C d1 f1) ∧ sp [.ref a] H Q E
theorem un_inv (D : MethOk X.prog X.w X.K X.mg X.base CX k C "__invert__" ps [] sp) (hr : Room k' X.A) (hx : Passes CX X E) (hk : k ≤ k' := by decide) : UnR X (unaryOp .Invert) (rOwnU C sp E) := by
  obtain ⟨f, fd, ds, hM, hb, hd, F⟩ := D
  intro pins s σ H x v Q I rx h
  obtain ⟨a, d1, f1, rfl, ea, q⟩ := h
  cases rx
  obtain ⟨mA, oA, _, _, _, _⟩ := ins_get I.hok ea
  obtain ⟨odA, IA, _⟩ := oA.look
  obtain ⟨mf, fr⟩ := I.fr
  refine PySem.W.ksp_inv fr I.ok.mod.kin IA hM.at_ hM.fn ?_
  exact run_fn (vs := [.ref a]) F (hr.mono hk) hb hd hx I (.cons rfl .nil) q
/-- x[i] -/
def rOwnIx (C : Addr) (sp : Sp) (E : XK) : R2 := fun x y H Q => ∃ (a d1 : Addr) (f1 : List (Str × V)) (i : Int), x = .ref a ∧ y = .int i ∧ H a = some (.ins C d1 f1) ∧ sp [.ref a, .int i] H Q E
theorem run_fn1 {f : Addr} {fd : FuncData} {ds : List Value} {dvs : List V} {pins : List (Addr × Obj)} {σ : L2.St} {H : Hp} {s : Shared} {Q : VK} {us : List Value} {vs : List V} (F : FnOk X.prog X.w X.K X.mg X.base CX k f fd ps sp) (hr : Room k X.A.in1) (hb : Binds X.K fd ps ds) (hd : Vals dvs ds)
    (hx : Passes CX X E) (I : Inv X pins σ H s) (r : Vals vs us) (h : sp (vs ++ dvs) H Q E) : wpAny (model X.prog X.w) X.A.in1 (call (.ref f) us) (EP X pins σ Q) X.xe s := by
  have r2 := r.append hd
  have hl : (us ++ ds).length = ps.length := r2.length.symm.trans (F.len _ _ _ _ h)
  refine wpAny_call (codeAny_mono (F.run X.A.in1 X.stack s H ⟨us, []⟩ (us ++ ds) (vs ++ dvs) Q E hr I.env0.in1 (hb s us I.kIn hl) r2 h) fun z s' hq => ?_)
  match z, hq with
  | .error e, hq => exact hx pins σ H s e s' I hq
  | .ok (.ret u), hq => exact I.after hq
theorem pe_ownIx {a b : Expr} {ta tb : TE} {pos : Pos} (D : MethOk X.prog X.w X.K X.mg X.base CX k C "__getitem__" ps [] sp) (hfn : ∀ f, PySem.W.findIn X.K (.ref C) "__getitem__" = some (some (.ref f)) → PySem.W.fnIn X.K f = true) (hr : Room k' X.A) (hx : Passes CX X E) (ha : PE X a ta) (hb : PE X b tb)
    (hk : k + 1 ≤ k' := by decide) (hs : ∀ (x : Addr) (i : Value), subscripted b true (.ref x) i = runValue (.builtin "lifetime.subscript" ⟨[.ref x, i], []⟩) := by intro _ _; with_unfolding_all rfl) : PE X (.Subscript a b pos) (tOp (rOwnIx C sp E) ta tb) := by
  obtain ⟨f, fd, ds, hM, hbi, hd, F⟩ := D
  refine ⟨fun pins s σ H Q I h => ?_⟩
  refine Subscript_ (binT ha hb I h fun v u s2 x y H2 I2 rx ry q => ?_)
  obtain ⟨p, d1, f1, i, rfl, rfl, ea, q⟩ := q
  cases rx
  obtain ⟨t, rfl⟩ := ry
  obtain ⟨mA, oA, _, _, _, _⟩ := ins_get I2.hok ea
  obtain ⟨odA, IA, _⟩ := oA.look
  obtain ⟨mf, fr⟩ := I2.fr
  refine PySem.W.sub_K fr I2.ok.mod.kin IA hM.at_ (hfn f hM.at_) hM.fn ?_ (hs p _)
  exact run_fn1 (vs := [.ref p, .int i]) F (hr.mono hk).in1 hbi hd hx I2 (.cons rfl (.cons ⟨t, rfl⟩ .nil)) q
end
end TW

namespace TW
open PySem PySem.Spec PyProof.Rows L2
/-! ### an error with one attribute, raised -/
section
variable {X : Cx} {CX : CXT} {k k' : Nat} {C : Addr} {x f q : Str} {e : Expr} {te : TE} {p pos : Pos}
theorem upd_del {H : Hp} {a d C : Addr} {f : Str} {v : V} (ha : H a = none) (hd : d ≠ a) :
    upd (del (upd (upd (upd H a (exo a C none)) d (exd d [(f, v)])) a (exo a C (some d))) a) d (.xd [(f, v)]) = upd H d (.xd [(f, v)]) := by
  funext b
  by_cases h1 : b = d
  · rw [h1, upd_same, upd_same]
  · rw [upd_ne h1, upd_ne h1]
    by_cases h2 : b = a
    · rw [h2, del_same, ha]
    · rw [del_ne h2, upd_ne h2, upd_ne h1, upd_ne h2]
def tMkErr (C : Addr) (f : Str) (te : TE) : L2.St → Hp → XK → Prop := fun σ H Q => te σ H fun v H1 => ∀ d : Addr, H1 d = none → Q (.ref C) (some d) (upd H1 d (.xd [(f, v)]))
theorem pmk_err (D : ErrOk X.prog X.w X.K X.mg X.base CX k C x f q) (hr : Room k' X.A) (hx : Passes CX X (fun _ _ _ => False)) (he : PE X e te) (hk : k + 1 ≤ k' := by decide) (hg : Gl X x := by rfl)
    (hdb : (x == ("__debug__" : Str)) = false := by decide) (hs : starEach [e] X.env = (false, eval e X.env) :: starEach [] X.env := by rfl) (hpl : (backTo pos (starEach [] X.env)).any (·.1) = false := by rfl) :
    PMk X (.Call (.Name x p) [e] [] pos) (tMkErr C f te) := by
  obtain ⟨T, hm, fI, fd, iC, tI, hb, F1⟩ := D
  have he2 : PE X e (fun σ H Q => ∃ Q0 : VK, te σ H Q0 ∧ ∀ v H1, Q0 v H1 → Q v H1) := ⟨fun pins s σ H Q I ⟨Q0, h0, hm⟩ =>
    wpAny_mono (he.run pins s σ H Q0 I h0) (fun _ _ ⟨v, H1, I1, r1, q1⟩ => ⟨v, H1, I1, r1, hm v H1 q1⟩) fun _ _ z => z⟩
  have R := pmk_oex (p := p) (pos := pos) T.oex iC tI F1 (hr.mono hk) hb .nil hx hg hm (pa_cons he2 pa_nil hs) hdb hs hpl
  intro pins s σ H Q I h
  refine R pins s σ H Q I ?_
  refine ⟨_, h, fun v H1 q => ⟨by show 1 ≤ 1000; decide, fun a na => ⟨a, v, rfl, upd_same, fun d nd dne => ⟨rfl, d, [(f, v)], upd_same, ?_, ?_, ?_⟩⟩⟩⟩
  · rw [upd_ne dne, upd_same]
  · rw [upd_ne dne] at nd
    exact nd
  · rw [upd_del na dne]
    rw [upd_ne dne] at nd
    exact q d nd
/-- x op y of an own class, which may raise -/
def tOwnS (C : Addr) (sp : Sp) (E : L2.St → XK) (ta tb : TE) : TE := fun σ H Q => ta σ H fun x H1 => tb σ H1 fun y H2 => rOwn C sp (E σ) x y H2 Q
theorem pe_ownS {op : Operator} {m : Str} {ps : List Str} {sp : Sp} {E : L2.St → XK} {a b : Expr} {ta tb : TE} (D : MethOk X.prog X.w X.K X.mg X.base CX k C m ps [] sp) (c : OpC X.K C) (hr : Room k' X.A) (hx : ∀ σ, PassesAt CX X σ (E σ)) (ha : PE X a ta) (hb : PE X b tb)
    (hk : k ≤ k' := by decide) (hm : m = PySem.dunder op.info.2 := by rfl) : PE X (.BinOp a op b pos) (tOwnS C sp E ta tb) := by
  obtain ⟨f, fd, ds, hM, hbi, hd, F⟩ := D
  refine ⟨fun pins s σ H Q I h => ?_⟩
  refine wpAny_BinOp (binT ha hb I h fun v u s2 x y H2 I2 rx ry q => ?_)
  obtain ⟨p, r, d1, d2, f1, f2, rfl, rfl, ea, eb, q⟩ := q
  cases rx
  cases ry
  obtain ⟨mA, oA, _, _, _, _⟩ := ins_get I2.hok ea
  obtain ⟨mB, oB, _, _, _, _⟩ := ins_get I2.hok eb
  obtain ⟨odA, IA, _⟩ := oA.look
  obtain ⟨odB, IB, _⟩ := oB.look
  obtain ⟨mf, fr⟩ := I2.fr
  subst hm
  refine PySem.W.binop_K fr I2.ok.mod.kin IA IB.type c.sf hM.at_ hM.fn ?_
  refine wpAny_mono (run_fnSD (E := E) (vs := [.ref p, .ref r]) F (hr.mono hk) hbi hd (hx σ) I2 (.cons rfl (.cons rfl .nil)) q) (fun _ _ z => back_ref z) fun _ _ z => z
end
end TW

namespace TW
open PySem PySem.Spec PyProof.Rows L2
/-! ### == and != by an own __eq__, whatever the other one is -/
section
open Builtin
variable {prog : Program} {w : World} {A : Around} {E : Value → Shared → Prop} {s : Shared} {K : PySem.W.Frag} {x C L f : Addr} {h₀ : Heap} {m : Str → Option Value} {ox : Obj} {od : Option Obj} {b tb : Value}
theorem ne_entry (X : K.In s.heap) (I : PySem.W.InstAt s.heap x ox C od) (hs : PySem.W.findIn K (.ref C) "__eq__" = some (some (.ref f))) (hf : PySem.W.isFn K (.ref f) = true) (hu : A.units < cLine) {Q : Fin → Shared → Prop}
    (hcall : wpAny (model prog w) A (call (.ref f) [.ref x, b]) (fun v s' => ∃ c, v = .bool c ∧ Q (.done (.ret (.bool (!c)))) s') E s) :
    wpAny (model prog w) A (Builtin.«object.__ne__» ⟨[.ref x, b], []⟩) Q E s := by
  unfold Builtin.«object.__ne__»
  repeat (first
    | with_reducible refine wpAny_cRoomFor hu ?_
    | (refine wpAny_bind (m := callSpecialIfBound? (.ref x) (Str.ofString "__eq__") [b])
        (PySem.W.ifBound_K X I hs hf (wpAny_mono hcall (fun r s' hr => by
          obtain ⟨c, rfl, hq⟩ := hr
          repeat (first | exact hq | exact wpAny_pure hq | exact wpAny_truthy_bool hq | (refine wpAny_bind (m := truthy (.bool _)) (wpAny_truthy_bool ?_)) | wp_step)) fun _ _ e => e)))
    | wp_step)
theorem ne_own (hu : A.units + 1 < cLine) (F : Fr h₀ L s.heap m) (X₀ : K.In h₀) (I : PySem.W.InstAt s.heap x ox C od) (hb : PySem.W.Looks (model prog w) s.heap (typeOf b) tb) (hn : PySem.W.notFirst K C tb = true)
    (hne : PySem.W.findIn K (.ref C) "__ne__" = some (some (.builtin "object.__ne__"))) (hs : PySem.W.findIn K (.ref C) "__eq__" = some (some (.ref f))) (hf : PySem.W.isFn K (.ref f) = true) (hm : PySem.W.mroIn K C (.type "object") = some true) {Q : Value → Shared → Prop}
    (h : wpAny (model prog w) A.in1 (call (.ref f) [.ref x, b]) (fun v s' => ∃ c, v = .bool c ∧ Q (.bool (!c)) s') E s) : wpAny (model prog w) A (compareOp .NotEq (.ref x) b) Q E s := by
  have X := X₀.keeps F.keep
  have FB := PySem.F.cmp_object
  have one : wpAny (model prog w) A (tryCompare (.ref x) (cmpInfo .NotEq).2.1 b) (fun r s' => ∃ v, r = some v ∧ Q v s') E s := by
    unfold tryCompare
    refine wpAny_bind ?_
    simp only [callSpecialIfBound?, bindSpecialIfBound?]
    refine wpAny_holding (wpAny_bind (wpAny_bind (wpAny_bind (I.type.here ((PySem.W.looks_findIn X hne).here ?_)))))
    simp only [FB.ne.bind]
    refine wpAny_bind (wpAny_askSetting (wpAny_ite ?_))
    have sub : PySem.W.Looks (model prog w) s.heap (isInstance (.ref x) (.type "object")) true := I.type.andThen (PySem.W.looks_mroIn X hm)
    have fin : wpAny (model prog w) A (call (.builtin "object.__ne__") [.ref x, b]) (fun v s' => ∃ c, v = .bool c ∧ Q (.bool c) s') E s := by
      refine wpAny_call (codeAny_call_builtin FB.ne.plain PySem.F.cmpEntry_ne ?_)
      refine @PySem.W.check_slot (model prog w) _ _ s "object.__ne__" "object" "__ne__" (.ref x) [b] [] _ PySem.F.cmpKind_ne PySem.F.cmpSplit_ne sub (PySem.F.cmpArgs_ne _ _) ?_
      refine ne_entry (A := A.in1) X I hs hf hu (wpAny_mono h (fun v s' hv => ?_) fun _ _ e => e)
      obtain ⟨c, rfl, hq⟩ := hv
      exact ⟨c, rfl, _, rfl, hq⟩
    have go : wpAny (model prog w) A (call (.builtin "object.__ne__") ([.ref x] ++ [b]) >>= fun v => pure (some v)) (fun a s' => wpAny (model prog w) A (match a with | some .notImplemented => pure none | none => pure none | some v => pure (some v)) (fun r s' => ∃ v, r = some v ∧ Q v s') E s') E s :=
      wpAny_bind (wpAny_mono fin (fun v s' hv => by
        obtain ⟨c, rfl, hq⟩ := hv
        exact wpAny_pure (wpAny_pure ⟨_, rfl, hq⟩)) fun _ _ e => e)
    split
    · exact wpAny_bind (wpAny_pure (wpAny_pure go))
    · exact wpAny_tryCatch (wpAny_bind (wpAny_pure (wpAny_pure go)))
  show wpAny (model prog w) A (richCompare .NotEq (.ref x) b) Q E s
  unfold richCompare
  simp only [oneThing_ref]
  refine wpAny_holding (wpAny_bind (wpAny_cRoomFor (Nat.lt_of_succ_lt hu) ?_))
  refine wpAny_bind (I.type.here (wpAny_bind (hb.here ?_)))
  split
  · rename_i q
    have e : PySem.W.subIn K tb (.ref C) = some false := by
      rcases Bool.or_eq_true_iff.mp hn with e | e
      · rw [beq_iff_eq.mp e] at q; simp at q
      · exact beq_iff_eq.mp e
    refine wpAny_bind ((PySem.W.looks_subIn X e).here ?_)
    simp only [Bool.false_eq_true, if_false]
    refine wpAny_bind (wpAny_mono one (fun r s' z => ?_) fun _ _ e => e)
    obtain ⟨v, rfl, hq⟩ := z
    exact wpAny_pure hq
  · refine wpAny_bind (wpAny_pure ?_)
    simp only [Bool.false_eq_true, if_false]
    refine wpAny_bind (wpAny_mono one (fun r s' z => ?_) fun _ _ e => e)
    obtain ⟨v, rfl, hq⟩ := z
    exact wpAny_pure hq
end
section
variable {X : Cx} {CX : CXT} {k k' : Nat} {C : Addr} {ps : List Str} {sp : Sp} {E : XK}
/-- x == y, x of the class, y of a type that is none below it -/
def rEqOwn (K : PySem.W.Frag) (C : Addr) (neg : Bool) (sp : Sp) (E : XK) : R2 := fun x y H Q => ∃ (a d1 : Addr) (f1 : List (Str × V)) (t : Value), x = .ref a ∧ H a = some (.ins C d1 f1) ∧ TyX K H y t ∧ PySem.W.notFirst K C t = true ∧
  sp [.ref a, y] H (fun v H' => ∃ c, v = .bl c ∧ Q (.bl (c != neg)) H') E
theorem op_eqOwn (D : MethOk X.prog X.w X.K X.mg X.base CX k C "__eq__" ps [] sp) (hr : Room k' X.A) (hx : Passes CX X E) (hk : k ≤ k' := by decide) : OpR X (compareOp .Eq) (rEqOwn X.K C false sp E) := by
  obtain ⟨f, fd, ds, hM, hb, hd, F⟩ := D
  intro pins s σ H x y v u Q I rx ry h
  obtain ⟨a, d1, f1, t, rfl, ea, ty, hn, q⟩ := h
  cases rx
  obtain ⟨mA, oA, _, _, _, _⟩ := ins_get I.hok ea
  obtain ⟨odA, IA, _⟩ := oA.look
  obtain ⟨mf, fr⟩ := I.fr
  obtain ⟨P, Z, p, _⟩ := kit_of I ry ty
  have L := Z.ty (model X.prog X.w) s.heap I.kIn p
  refine PySem.W.cmp_K (op := .Eq) hr.units0 fr I.ok.mod.kin IA L hn hM.at_ hM.fn ?_
  refine wpAny_mono (run_fn (vs := [.ref a, y]) F (hr.mono hk) hb hd hx I (.cons rfl (.cons ry .nil)) q) (fun z s' hz => ?_) fun _ _ z => z
  obtain ⟨v', H', I', r', c, rfl, q'⟩ := hz
  cases r'
  have e : (c != false) = c := by cases c <;> rfl
  rw [e] at q'
  exact ⟨.bl c, H', I', rfl, q'⟩
/-- x != y by the same __eq__ -/
theorem op_neOwn (D : MethOk X.prog X.w X.K X.mg X.base CX k C "__eq__" ps [] sp) (hne : PySem.W.findIn X.K (.ref C) "__ne__" = some (some (.builtin "object.__ne__"))) (hm : PySem.W.mroIn X.K C (.type "object") = some true) (hr : Room k' X.A) (hx : Passes CX X E) (hk : k + 1 ≤ k' := by decide) :
    OpR X (compareOp .NotEq) (rEqOwn X.K C true sp E) := by
  obtain ⟨f, fd, ds, hM, hb, hd, F⟩ := D
  intro pins s σ H x y v u Q I rx ry h
  obtain ⟨a, d1, f1, t, rfl, ea, ty, hn, q⟩ := h
  cases rx
  obtain ⟨mA, oA, _, _, _, _⟩ := ins_get I.hok ea
  obtain ⟨odA, IA, _⟩ := oA.look
  obtain ⟨mf, fr⟩ := I.fr
  obtain ⟨P, Z, p, _⟩ := kit_of I ry ty
  have L := Z.ty (model X.prog X.w) s.heap I.kIn p
  refine ne_own (by have := hr.un; omega) fr I.ok.mod.kin IA L hn hne hM.at_ hM.fn hm ?_
  refine wpAny_mono (run_fn1 (vs := [.ref a, y]) F (hr.mono hk).in1 hb hd hx I (.cons rfl (.cons ry .nil)) q) (fun z s' hz => ?_) fun _ _ z => z
  obtain ⟨v', H', I', r', c, rfl, q'⟩ := hz
  cases r'
  have e : (c != true) = !c := by cases c <;> rfl
  rw [e] at q'
  exact ⟨c, rfl, .bl (!c), H', I', rfl, q'⟩
end
end TW

namespace TW
open PySem PySem.Spec PyProof.Rows L2
/-! ### an object made by an __init__ that raises, in a try -/
section
variable {X : Cx} {CX : CXT} {k k' : Nat} {ps : List Str} {sp : Sp} {dvs : List V} {E : L2.St → XK} {x : Str} {p pos : Pos} {e : Expr} {es : List Expr} {t : TA} {C : Addr}
def tMakeS (C : Addr) (sp : Sp) (dvs : List V) (E : L2.St → XK) (t : TA) : TE := fun σ H Q => t σ H fun vs H1 => ∀ y dx, H1 y = none → H1 dx = none → dx ≠ y →
  sp (.ref y :: (vs ++ dvs)) (upd (upd H1 dx (.own y)) y (.ins C dx [])) (fun v H2 => v = .non ∧ Q (.ref y) H2) (E σ)
theorem pe_mkS (D : MakeOk X.prog X.w X.K X.mg X.base CX k C x ps dvs sp) (hr : Room k' X.A) (hx : ∀ σ, PassesAt CX X σ (E σ)) (ha : PA X (e :: es) t) (hk : k + 1 ≤ k' := by decide) (hg : Gl X x := by rfl) (hdb : (x == ("__debug__" : Str)) = false := by decide)
    (he : starEach (e :: es) X.env = (false, eval e X.env) :: starEach es X.env := by rfl) (hpl : (backTo pos (starEach es X.env)).any (·.1) = false := by rfl) : PE X (.Call (.Name x p) (e :: es) [] pos) (tMakeS C sp dvs E t) := by
  obtain ⟨hm, f, fd, ds, M, hb, hd, F⟩ := D
  have hr1 := hr.mono hk
  refine ⟨fun pins s σ H Q I h => ?_⟩
  refine wpAny_Call_Name_kw (ld_glob I hg hm ?_ hdb)
  refine PySem.W.callWith_K (h₀ := X.base) I.ok.mod.kin M.kp (thn (ha.run pos pins s σ H _ I h) fun us s1 ⟨vs, H1, I1, r, q⟩ => ⟨I1.kIn, ?_⟩) he hpl
  show wpAny _ _ (call (.ref C) us) _ _ _
  have q2 := q (s1.heap.objs.size + 1) s1.heap.objs.size (I1.hok.fresh (Nat.le_succ _)) (I1.hok.fresh (Nat.le_refl _)) (Nat.ne_of_lt (Nat.lt_succ_self _))
  have I2 := Inv.made (C := C) I1
  have rr : Vals (V.ref (s1.heap.objs.size + 1) :: (vs ++ dvs)) (Value.ref (s1.heap.objs.size + 1) :: (us ++ ds)) := .cons rfl (r.append hd)
  have len : (Value.ref (s1.heap.objs.size + 1) :: us ++ ds).length = ps.length := rr.length.symm.trans (F.len _ _ _ _ q2)
  refine wpAny_call (make_map (f := f) I1.kIn M.makes M.init (beq_iff_eq.mp M.fn) (codeAny_mono (F.run _ X.stack _ _ ⟨Value.ref (s1.heap.objs.size + 1) :: us, []⟩ _ _ _ (E σ) (hr1.make C us []) (I2.env0.make C us []) (hb _ (Value.ref (s1.heap.objs.size + 1) :: us) I2.kIn len) rr q2) fun z s' hz => ?_))
  match z, hz with
  | .error er, hz => exact hx σ pins _ _ er s' I2 hz
  | .ok (.ret u), hz =>
    obtain ⟨v, H', I3, rv, ev, q3⟩ := I2.after hz
    subst ev
    exact ⟨rv, V.ref (s1.heap.objs.size + 1), H', I3, rfl, q3⟩
end
end TW

namespace TW
open PySem PySem.Spec PyProof.Rows L2
/-! ### try: .. with several clauses that name their error -/
abbrev Suite := Addr → Value → Option Addr → TS
/-- one clause behind the other: class, the slot of its name, its suite -/
def wManyA (K : PySem.W.Frag) (W0 : WX) (D : Ends) : List (Value × Nat × Suite) → WX
  | [] => W0
  | (c, i, ts) :: rest => fun cls d σ H => ∃ b, PySem.W.exmOne K cls c = some b ∧
      (b = true → ∀ a, H a = none → ts a cls d { nx := fun σ' H' => D.nx (σ'.set i none) H', rt := D.rt, bk := fun σ' H' => D.bk (σ'.set i none) H', ct := fun σ' H' => D.ct (σ'.set i none) H' } (σ.set i (some (.ref a))) H) ∧
      (b = false → wManyA K W0 D rest cls d σ H)
inductive HdsA (X : Cx) : List ExceptHandler → List (Value × Nat × Suite) → Prop
  | nil : HdsA X [] []
  | cons {x n : Str} {c : Value} {i : Nat} {ts : Suite} {b₀ : Stmt} {suite : List Stmt} {p1 p2 : Pos} {hs : List ExceptHandler} {l : List (Value × Nat × Suite)} (hc : Names X x c) (hi : X.N[i]? = some n) (hl : X.env.kindOf n = some .local)
      (su : ∀ (a : Addr) (o : Obj) (cls : Value) (d : Option Addr) (pn : List (Addr × Obj)), Zc cls d o → (∃ vs, o.data = .fields vs) → PSs (X.suite a ((a, o) :: pn)) (b₀ :: suite) (ts a cls d)) (rest : HdsA X hs l) :
      HdsA X (.ExceptHandler (some (.Name x p1)) (some n) (b₀ :: suite) p2 :: hs) ((c, i, ts) :: l)
section
variable {X : Cx} {body : List Stmt} {hd₀ : ExceptHandler} {hds : List ExceptHandler} {l : List (Value × Nat × Suite)} {tb : WX → TS} {W0 : WX} {pos : Pos}
theorem ps_try_manyA (hs : X.stack = X.env :: X.outer) (hf : X.env.frame = some X.env.locals) (hN : X.N.Nodup) (tk : Takes X W0)
    (hb : ∀ (W : WX) (pn : List (Addr × Obj)) (xe : Value → Shared → Prop), Takes (X.tr pn xe) W → PassesOwn (model X.prog X.w) X.A X.env xe → PSs (X.tr pn xe) body (tb W)) (hh : HdsA X (hd₀ :: hds) l) :
    PS X (.Try body (hd₀ :: hds) [] [] pos) (fun D σ H => tb (wManyA X.K W0 D l) D σ H) := by
  refine ⟨fun pins s0 σ0 H0 D I0 h0 => ?_⟩
  have OK := I0.ok
  have frm : X.A.frames = some (X.env :: X.outer) := by rw [OK.frames, hs]
  refine wpAny_Try_except (wpAny_mono ((hb (wManyA X.K W0 D l) (X.pn ++ pins) (fun u t1 => wpAny (model X.prog X.w) X.A (noteFrame u X.env) (fun _ t2 => wpAny (model X.prog X.w) X.A (setFlight u none) (fun _ t3 =>
    wpAny (model X.prog X.w) X.A (handleBy u X.env (hd₀ :: hds)) (SP X pins D) X.xe t3) X.xe t2) X.xe t1) (fun u sx air => ?_) PassesOwn.looking).run [] s0 σ0 H0 D (I0.toTry _) h0) (fun fl t1 sp => ?_) (fun u t1 z => z))
  · obtain ⟨x, G, sJ, pins2, σ1, H1, cls, d, rfl, JJ, keepB, upS, inSky, free, sameOs, bareS, how⟩ := air
    have J := JJ.ofTry OK
    rw [hs] at inSky
    refine Sky.land Zc.steady frm hf inSky fun hA flA upA => ?_
    have JA : Inv X pins σ1 H1 { sx with heap := hA } := J.landed keepB flA.1 (upS.trans upA) sameOs bareS
    obtain ⟨oA, vA, eA, zA, dA⟩ := flA.there
    have noF : x ∉ frs (X.env :: X.outer) := fun hm => by
      obtain ⟨_, o2, e2, bad⟩ := flA.2.2.1.mem hm
      rw [eA] at e2
      cases e2
      exact bad _ dA
    have neL : x ≠ X.env.locals := fun z => noF (List.mem_filterMap.mpr ⟨X.env, List.mem_cons_self, by rw [hf, z]⟩)
    have neF : x ∉ X.fs := fun hm => by
      obtain ⟨en, hen, z⟩ := List.mem_filterMap.mp hm
      exact noF (List.mem_filterMap.mpr ⟨en, List.mem_cons_of_mem _ hen, z⟩)
    have SA := JA.suite eA dA free neL neF
    have all : ∀ {hq : List ExceptHandler} {lq : List (Value × Nat × Suite)}, HdsA X hq lq → wManyA X.K W0 D lq cls d σ1 H1 → wpAny (model X.prog X.w) X.A (handleBy (.ref x) X.env hq) (SP X pins D) X.xe { sx with heap := hA } := by
      intro hq lq hk
      induction hk with
      | nil =>
        intro w0
        refine wpAny_handleBy_nil ?_
        obtain ⟨_, _, _, oB, vB, TB, oTB, tsB, eB, zB, dB, oneB, _⟩ := id flA
        unfold PySem.passOn
        refine wpAny_bind (wpAny_field eB dB oneB ?_)
        rw [if_neg (show ¬ ((Value.ref TB == Value.none) = true) by simp)]
        have out : wpAny (model X.prog X.w) X.A (setFlight (.ref x) X.env.frame) (fun _ t4 => wpAny (model X.prog X.w) X.A (throw (.ref x) : Sem Flow) (SP X pins D) X.xe t4) X.xe { sx with heap := hA } := by
          rw [hf]
          refine HandSPX.setFlight_upZ flA fun hB heldB upB => wpAny_throw (tk _ _ ⟨x, G, sJ, pins, σ1, H1, cls, d, rfl, J, keepB, (upS.trans upA).trans upB, .inr (.inr (by rw [hs]; exact heldB)), free, sameOs, bareS, w0⟩)
        first
          | exact wpAny_bind (wpAny_pure (wpAny_bind out))
          | exact wpAny_bind out
      | @cons xn n c i ts b₀ suite p1 p2 hs2 l2 hc hi hl su rest ih =>
        intro w0
        obtain ⟨b, hexm, yes, no⟩ := w0
        refine wpAny_handleBy_cons (codeAny_handlers_test ?_) (by intro z; cases z)
        have LT : PySem.W.Looks (model X.prog X.w) hA (typeOf (.ref x)) cls := fun A' Q' E' t k q => wpAny_typeOf_ref (k _ _ eA) (by rw [zA.1]; exact q)
        have LM := PySem.W.exm_one (M := model X.prog X.w) JA.kIn LT hexm
        have asked : ∀ {Q : Value → Shared → Prop} {E : Value → Shared → Prop}, Q c { sx with heap := hA } → wpAny (model X.prog X.w) (X.A.mark (some (.ref x))) (eval (.Name xn p1) X.env) Q E { sx with heap := hA } := fun {Q E} q => by
          obtain ⟨hg, hdb, hm | ⟨hm, hv, hn⟩⟩ := hc
          · exact ld_glob (X := X.suite x ((x, oA) :: (X.pn ++ pins))) SA hg hm q hdb
          · exact ld_blt (X := X.suite x ((x, oA) :: (X.pn ++ pins))) SA hg hm hv q hn hdb
        refine asked (LM.here ?_)
        cases b with
        | true =>
          refine codeAny_handlers_suite_as (HandSPX.lands_againZ flA fun hC flC upC => ?_)
          have JC : Inv X pins σ1 H1 { sx with heap := hC } := J.landed keepB flC.1 ((upS.trans upA).trans upC) sameOs bareS
          obtain ⟨oC, vC, eC, zC, dC⟩ := flC.there
          refine store_ok (X := X.suite x ((x, oC) :: (X.pn ++ pins))) (v := .ref x) (JC.suite eC dC free neL neF) hN hi (.inl hl) rfl (fun t5 S5 => ?_) (.inr hl)
          refine wpAny_mono ((su x oC cls d (X.pn ++ pins) zC ⟨_, dC⟩).run [] t5 _ H1 _ S5 (yes rfl x free)) (fun fl t6 got => ?_) (fun _ _ z => False.elim z)
          have bye : ∀ {σ6 : L2.St} {H6 : Hp} {Q : Shared → Prop}, Inv (X.suite x ((x, oC) :: (X.pn ++ pins))) [] σ6 H6 t6 → (∀ t7, Inv X pins (σ6.set i none) H6 t7 → Q t7) →
              wpAny (model X.prog X.w) X.A (do bindName X.env n .none; unbindBehindTheSuite X.env n p2) (fun _ t7 => Q t7) X.xe t6 := fun S6 hq => gone_ok (S6.unsuite OK) hN hi hl hq
          match fl, got with
          | .next, ⟨_, _, S6, q6⟩ => exact bye S6 fun t7 J7 => ⟨_, _, J7, q6⟩
          | .brk, ⟨_, _, S6, q6⟩ => exact bye S6 fun t7 J7 => ⟨_, _, J7, q6⟩
          | .cont, ⟨_, _, S6, q6⟩ => exact bye S6 fun t7 J7 => ⟨_, _, J7, q6⟩
          | .ret u, ⟨_, _, _, S6, r6, q6⟩ => exact bye S6 fun t7 J7 => ⟨_, _, _, J7, r6, q6⟩
        | false =>
          show wpAny _ X.A (handleBy (.ref x) X.env hs2) _ _ _
          exact ih (no rfl)
    exact all hh how
  · match fl, sp with
    | .next, ⟨σ', H', J', q⟩ => exact wpAny_execs_nil ⟨σ', H', J'.ofTry OK, q⟩
    | .brk, ⟨σ', H', J', q⟩ => exact ⟨σ', H', J'.ofTry OK, q⟩
    | .cont, ⟨σ', H', J', q⟩ => exact ⟨σ', H', J'.ofTry OK, q⟩
    | .ret u, ⟨v, σ', H', J', r, q⟩ => exact ⟨v, σ', H', J'.ofTry OK, r, q⟩
end
end TW

namespace TW
open PySem PySem.Spec PyProof.Rows L2
/-! ### w[i] of an own class, which may raise -/
section
variable {X : Cx} {CX : CXT} {k k' : Nat} {C : Addr} {ps : List Str} {sp : Sp} {E : L2.St → XK} {a b : Expr} {ta tb : TE} {pos : Pos}
def tOwnIxS (C : Addr) (sp : Sp) (E : L2.St → XK) (ta tb : TE) : TE := fun σ H Q => ta σ H fun x H1 => tb σ H1 fun y H2 => rOwnIx C sp (E σ) x y H2 Q
theorem run_fn1S {f : Addr} {fd : FuncData} {ds : List Value} {dvs : List V} {pins : List (Addr × Obj)} {σ : L2.St} {H : Hp} {s : Shared} {Q : VK} {us : List Value} {vs : List V} (F : FnOk X.prog X.w X.K X.mg X.base CX k f fd ps sp) (hr : Room k X.A.in1) (hb : Binds X.K fd ps ds) (hd : Vals dvs ds)
    (hx : PassesAt CX X σ (E σ)) (I : Inv X pins σ H s) (r : Vals vs us) (h : sp (vs ++ dvs) H Q (E σ)) : wpAny (model X.prog X.w) X.A.in1 (call (.ref f) us) (EP X pins σ Q) X.xe s := by
  have r2 := r.append hd
  have hl : (us ++ ds).length = ps.length := r2.length.symm.trans (F.len _ _ _ _ h)
  refine wpAny_call (codeAny_mono (F.run X.A.in1 X.stack s H ⟨us, []⟩ (us ++ ds) (vs ++ dvs) Q (E σ) hr I.env0.in1 (hb s us I.kIn hl) r2 h) fun z s' hq => ?_)
  match z, hq with
  | .error e, hq => exact hx pins H s e s' I hq
  | .ok (.ret u), hq => exact I.after hq
theorem pe_ownIxS (D : MethOk X.prog X.w X.K X.mg X.base CX k C "__getitem__" ps [] sp) (hfn : ∀ f, PySem.W.findIn X.K (.ref C) "__getitem__" = some (some (.ref f)) → PySem.W.fnIn X.K f = true) (hr : Room k' X.A) (hx : ∀ σ, PassesAt CX X σ (E σ)) (ha : PE X a ta) (hb : PE X b tb)
    (hk : k + 1 ≤ k' := by decide) (hs : ∀ (x : Addr) (i : Value), subscripted b true (.ref x) i = runValue (.builtin "lifetime.subscript" ⟨[.ref x, i], []⟩) := by intro _ _; with_unfolding_all rfl) : PE X (.Subscript a b pos) (tOwnIxS C sp E ta tb) := by
  obtain ⟨f, fd, ds, hM, hbi, hd, F⟩ := D
  refine ⟨fun pins s σ H Q I h => ?_⟩
  refine Subscript_ (binT ha hb I h fun v u s2 x y H2 I2 rx ry q => ?_)
  obtain ⟨p, d1, f1, i, rfl, rfl, ea, q⟩ := q
  cases rx
  obtain ⟨t, rfl⟩ := ry
  obtain ⟨mA, oA, _, _, _, _⟩ := ins_get I2.hok ea
  obtain ⟨odA, IA, _⟩ := oA.look
  obtain ⟨mf, fr⟩ := I2.fr
  refine PySem.W.sub_K fr I2.ok.mod.kin IA hM.at_ (hfn f hM.at_) hM.fn ?_ (hs p _)
  exact run_fn1S (vs := [.ref p, .int i]) F (hr.mono hk).in1 hbi hd (hx σ) I2 (.cons rfl (.cons ⟨t, rfl⟩ .nil)) q
end
end TW

namespace TW
open PySem PySem.Spec PyProof.Rows L2
/-! ### str(x) by an own __str__ -/
section
variable {X : Cx} {CX : CXT} {k k' : Nat} {C : Addr} {ps : List Str} {sp : Sp} {E : XK} {f : Addr} {fd : FuncData} {ds : List Value} {dvs : List V}
theorem room2 {k : Nat} {A : Around} (r : Room (k + 2) A) : Room k A.in1.in1 := (L2.Room.in1 r).in1
theorem run_fn2 {pins : List (Addr × Obj)} {σ : L2.St} {H : Hp} {s : Shared} {Q : VK} {us : List Value} {vs : List V} (F : FnOk X.prog X.w X.K X.mg X.base CX k f fd ps sp) (hr : Room k X.A.in1.in1) (hb : Binds X.K fd ps ds) (hd : Vals dvs ds)
    (hx : Passes CX X E) (I : Inv X pins σ H s) (r : Vals vs us) (h : sp (vs ++ dvs) H Q E) : wpAny (model X.prog X.w) X.A.in1.in1 (call (.ref f) us) (EP X pins σ Q) X.xe s := by
  have r2 := r.append hd
  have hl : (us ++ ds).length = ps.length := r2.length.symm.trans (F.len _ _ _ _ h)
  refine wpAny_call (codeAny_mono (F.run X.A.in1.in1 X.stack s H ⟨us, []⟩ (us ++ ds) (vs ++ dvs) Q E hr I.env0.in1.in1 (hb s us I.kIn hl) r2 h) fun z s' hq => ?_)
  match z, hq with
  | .error e, hq => exact hx pins σ H s e s' I hq
  | .ok (.ret u), hq => exact I.after hq
def rStrOwn (C : Addr) (sp : Sp) (E : XK) : List V → Hp → VK → Prop := fun xs H Q => ∃ (a d1 : Addr) (f1 : List (Str × V)), xs = [.ref a] ∧ H a = some (.ins C d1 f1) ∧ sp [.ref a] H (fun v H' => ∃ y, v = .str y ∧ Q (.str y) H') E
theorem call_strOwn (D : MethOk X.prog X.w X.K X.mg X.base CX k C "__str__" ps [] sp) (hr : Room k' X.A) (hx : Passes CX X E) (hk : k + 2 ≤ k' := by decide) : CallR X (.type "str") (rStrOwn C sp E) := by
  obtain ⟨f, fd, ds, hM, hb, hd, F⟩ := D
  intro pins s σ H xs us Q I r h
  obtain ⟨a, d1, f1, rfl, ea, q⟩ := h
  cases r with
  | cons rx rr =>
    cases rr
    cases rx
    obtain ⟨mA, oA, _, _, _, _⟩ := ins_get I.hok ea
    obtain ⟨odA, IA, _⟩ := oA.look
    have hr2 := room2 (hr.mono hk)
    refine PySem.W.kso_call (by have := hr2.un; omega) I.kIn IA hM.at_ hM.fn ?_
    refine wpAny_mono (run_fn2 (vs := [.ref a]) F hr2 hb hd hx I (.cons rfl .nil) q) (fun z s' hz => ?_) fun _ _ z => z
    obtain ⟨v', H', I', r', y, rfl, q'⟩ := hz
    obtain ⟨t, rfl⟩ := r'
    exact ⟨.str y, H', I', ⟨t, rfl⟩, q'⟩
end
end TW

namespace TW
open PySem PySem.Spec PyProof.Rows L2
/-! ### C.m(e, ..), m a staticmethod -/
section
variable {X : Cx} {CX : CXT} {k k' : Nat} {C : Addr} {mc : Value} {m : Str} {ps : List Str} {dvs : List V} {sp : Sp} {E : XK} {e o : Expr} {es : List Expr} {ta : TE} {t : TA} {apos pos : Pos}
/-- the record at p, the def at g -/
structure SMet (K : PySem.W.Frag) (C : Addr) (mc : Value) (m : Str) (p g : Addr) : Prop where
  ty : PySem.W.typeIn K (.ref C) = some mc
  rd : PySem.W.readsIn K C mc = true
  ga : PySem.W.specialIn K (.ref C) "__getattribute__" = some (some (.builtin "type.__getattribute__"))
  at_ : PySem.W.findCls K (.ref C) mc m = some (.get (.builtin "staticmethod.__get__") (.ref p) .none (.ref C))
  rc : ∃ rest, PySem.W.recIn K p "staticmethod" = some (.ref g :: rest)
  kp : PySem.W.keepIn K (.ref g) = true
def StatOk (P : Program) (w : World) (K : PySem.W.Frag) (mg : Str → Option Value) (base : Heap) (CX : CXT) (k : Nat) (C : Addr) (m : Str) (ps : List Str) (dvs : List V) (sp : Sp) : Prop :=
  ∃ (mc : Value) (p g : Addr) (fd : FuncData) (ds : List Value), SMet K C mc m p g ∧ Binds K fd ps ds ∧ Vals dvs ds ∧ FnOk P w K mg base CX k g fd ps sp
def tStat (C : Addr) (sp : Sp) (dvs : List V) (E : XK) (ta : TE) (t : TA) : TE := fun σ H Q => ta σ H fun x H1 => x = .ref C ∧ t σ H1 fun vs H2 => sp (vs ++ dvs) H2 Q E
theorem pe_stat {pl : Sem Bool} (D : StatOk X.prog X.w X.K X.mg X.base CX k C m ps dvs sp) (hr : Room k' X.A) (hx : Passes CX X E) (he : PE X o ta) (ha : PA X (e :: es) t) (hk : k ≤ k' := by decide)
    (hst : starEach (e :: es) X.env = (false, eval e X.env) :: starEach es X.env := by rfl) (hpl : (backTo pos (starEach es X.env)).any (·.1) = false := by rfl)
    (ht : eval (.Call (.Attribute o m apos) (e :: es) [] pos) X.env = (do
      let ov ← eval o X.env
      standAt apos.atName
      let (f, first) ← holding [ov] (getMethod ov m pl)
      callWith pos f first (backTo pos (starEach (e :: es) X.env)) (backToKw pos (keywordEach [] X.env))) := by rfl) :
    PE X (.Call (.Attribute o m apos) (e :: es) [] pos) (tStat C sp dvs E ta t) := by
  obtain ⟨mc, p, g, fd, ds, c, hb, hd, F⟩ := D
  refine ⟨fun pins s σ H Q I h => ?_⟩
  refine PySem.W.methodCall_KW (pl := pl) (thn (he.run pins s σ H _ I h) fun u s1 ⟨x, H1, I1, rx, ex, q⟩ => ?_) ht
  subst ex
  obtain rfl : u = Value.ref C := rx
  obtain ⟨rest, hp⟩ := c.rc
  obtain ⟨mf, fr⟩ := I1.fr
  refine PySem.W.method_cls I1.kIn c.ga (PySem.W.cls_sm fr I1.ok.mod.kin c.ty c.rd c.at_ hp rfl ?_)
  refine PySem.W.callWith_K (h₀ := X.base) I1.ok.mod.kin c.kp (thn (ha.run pos pins _ σ H1 _ (I1.tok _) q) fun us s2 ⟨vs, H2, I2, rv, q2⟩ => ⟨I2.kIn, ?_⟩) hst hpl
  exact run_fn F (hr.mono hk) hb hd hx I2 rv q2
end
end TW

namespace TW
open PySem PySem.Spec PyProof.Rows L2
/-! ### a dict comprehension over any walk -/
section
variable {J : It} {n : Nat} {G : Hp → Prop} {Y : Nat → Hp → V → Hp → Prop}
theorem dc_walk (w : Walk J n G Y) {g : TG} {tt : TT} {tk tv : TE} {vs : List Nat} {σ : L2.St} {H1 : Hp} {D : Addr} {Qd : Hp → Prop} (Pv : Nat → Hp → Prop) (start : Pv 0 (upd H1 D (.dK []))) (hG : ∀ i H, i ≤ n → Pv i H → G H)
    (step : ∀ i x H H', i < n → Pv i H → Y i H x H' → g x (wipe σ vs) H' fun σ2 H2 => wipe σ2 vs = wipe σ vs ∧ tt σ2 H2 fun b H3 =>
      if b = true then tk σ2 H3 fun y H4 => tv σ2 H4 fun z H5 => ∃ kvs k, y = kV k ∧ H5 D = some (.dK kvs) ∧ kvs.length < sizeLine ∧ Pv (i + 1) (upd H5 D (.dK (putK kvs k z))) else Pv (i + 1) H3) (done : ∀ H, Pv n H → Qd H) :
    ∃ W : Nat → Nat → Hp → Prop, (∃ m, W 0 m (upd H1 D (.dK []))) ∧ ∀ i m H, W i m H →
      (J.stop i H ∧ Qd H) ∨ (J.go i H ∧ ∃ Nx : Hp → Prop, (∀ H', Nx H' → ∃ m', m' < m ∧ W (i + 1) m' H') ∧ ∀ x H', J.yld i H x H' → g x (wipe σ vs) H' fun σ2 H2 => wipe σ2 vs = wipe σ vs ∧ tt σ2 H2 fun b H3 =>
        if b = true then tk σ2 H3 fun y H4 => tv σ2 H4 fun z H5 => ∃ kvs k, y = kV k ∧ H5 D = some (.dK kvs) ∧ kvs.length < sizeLine ∧ Nx (upd H5 D (.dK (putK kvs k z))) else Nx H3) := by
  refine ⟨fun i m H => m = n - i ∧ i ≤ n ∧ Pv i H, ⟨n, by simp, Nat.zero_le _, start⟩, ?_⟩
  rintro i m H ⟨em, le, pv⟩
  subst em
  rcases Nat.lt_or_ge i n with lt | ge
  · exact .inr ⟨w.goes i H lt (hG i H le pv), Pv (i + 1), fun H' pv' => ⟨n - (i + 1), by omega, rfl, lt, pv'⟩, fun x H' y => step i x H H' lt pv (w.yields i H x H' lt (hG i H le pv) y)⟩
  · have ei : i = n := by omega
    subst ei
    exact .inl ⟨w.stops H (hG i H le pv), done H pv⟩
end
end TW

namespace TW
open PySem PySem.Spec PyProof.Rows L2
/-! ### len(set(xs)), xs a list of texts, some of them alike -/
/-- how many unlike ones a list has, told beside its length -/
def Unl (xs : List Str) (c : Nat) : Prop := c ≤ xs.length ∧ (c = xs.length ↔ xs.Nodup)
theorem unl_nil : Unl [] 0 := ⟨Nat.le_refl _, ⟨fun _ => List.nodup_nil, fun _ => rfl⟩⟩
theorem unl_old {xs : List Str} {c : Nat} {x : Str} (u : Unl xs c) (h : x ∈ xs) : Unl (xs ++ [x]) c := by
  refine ⟨by rw [List.length_append]; exact Nat.le_trans u.1 (Nat.le_add_right _ _), ⟨fun e => ?_, fun nd => ?_⟩⟩
  · have := u.1
    rw [e, List.length_append, List.length_singleton] at this
    omega
  · exact absurd rfl ((List.nodup_append.mp nd).2.2 x h x List.mem_cons_self)
theorem unl_new {xs : List Str} {c : Nat} {x : Str} (u : Unl xs c) (h : x ∉ xs) : Unl (xs ++ [x]) (c + 1) := by
  refine ⟨by rw [List.length_append, List.length_singleton]; exact Nat.succ_le_succ u.1, ?_⟩
  rw [List.length_append, List.length_singleton]
  constructor
  · intro e
    refine List.nodup_append.mpr ⟨u.2.mp (by omega), List.pairwise_singleton _ _, fun a ha b hb e2 => ?_⟩
    rw [List.mem_singleton.mp hb] at e2
    exact h (e2 ▸ ha)
  · intro nd
    rw [u.2.mpr (List.nodup_append.mp nd).1]
section
variable {prog : Program} {w : World} {A : Around}
/-- the set at S holds the texts xs, c unlike ones -/
def TxSet (prog : Program) (w : World) (h : Heap) (S : Addr) (xs : List Str) : Prop := ∃ c, Unl xs c ∧ h.SetOf (PySem.strKind prog w) S (fun k => decide (k ∈ xs)) c
theorem TxSet.keep {h h' : Heap} {S : Addr} {xs : List Str} (t : TxSet prog w h S xs) (k : ∀ o, h.get? S = some o → h'.get? S = some o) : TxSet prog w h' S xs := by
  obtain ⟨c, u, o, es, ep, tb, ho, more⟩ := t
  exact ⟨c, u, o, es, ep, tb, k o ho, more⟩
theorem grow_texts {R : Result → Shared → Prop} {I S : Addr} {fp wr : List Addr} {G : Array GenState → Array GenState → Prop} {n : Nat} {Pv : Nat → Value → Prop} {St : Nat → Shared → Prop} {xs : List Str}
    (W : WalksS prog w A.in1 I fp wr G n Pv St) (away : S ∉ fp) (len : xs.length = n) (few : n + 1 < scanBound) (told : ∀ i v, Pv i v → ∃ t, v = .str (xs.getD i Str.empty) t) (left : Nat) :
    ∀ (i : Nat) (s : Shared), n = i + left → St i s → TxSet prog w s.heap S (xs.take i) → (∀ s', Moved (S :: wr) G s s' → TxSet prog w s'.heap S xs → R (.ok (.ret .none)) s') →
      codeAny (model prog w) A (.builtin "set.update.loop" ⟨[.ref S, .ref I], []⟩) R s := by
  have apart : S ∉ wr := fun h => away (W.sub _ h)
  have wider : ∀ b ∈ wr, b ∈ S :: wr := fun _ hb => List.mem_cons_of_mem _ hb
  induction left with
  | zero =>
    intro i s hn st tx fin
    have en : i = n := by omega
    have ex : xs.take i = xs := List.take_of_length_le (by omega)
    subst en
    rw [ex] at tx
    refine codeAny_builtin F.entry_set_update_loop (by
      rw [Around.under_plainId F.plain_set_update_loop _]
      refine (wpAny_bind (W.done s _ _ st fun s' mv => ?_) : wpAny (model prog w) A.in1 (pyNext (.ref I) >>= _) _ _ s)
      show wpAny (model prog w) A.in1 (ret .none) _ _ s'; exact wpAny_pure (fin s' (mv.mono wider) (tx.keep fun o e => mv.heap S o apart e)))
  | succ left ih =>
    intro i s hn st tx fin
    have lt : i < n := by omega
    refine codeAny_builtin F.entry_set_update_loop (by
      rw [Around.under_plainId F.plain_set_update_loop _]
      refine (wpAny_bind (W.item i s _ _ lt st fun v s' pv st' mv => ?_) : wpAny (model prog w) A.in1 (pyNext (.ref I) >>= _) _ _ s)
      obtain ⟨t, rfl⟩ := told i v pv
      have tx' := tx.keep (h' := s'.heap) fun o e => mv.heap S o apart e
      obtain ⟨c, u, so⟩ := tx'
      obtain ⟨x, hx⟩ : ∃ x, xs[i]? = some x := ⟨_, List.getElem?_eq_getElem (by omega)⟩
      have gx : xs.getD i Str.empty = x := by rw [List.getD_eq_getElem?_getD, hx]; rfl
      have tk : xs.take (i + 1) = xs.take i ++ [x] := by rw [List.take_add_one, hx]; rfl
      rw [gx]
      have cn : c + 1 < scanBound := by
        have a := u.1
        rw [List.length_take] at a
        omega
      refine (wpAny_bind (wpAny_holding ?_) : wpAny (model prog w) A.in1 (holding [Value.str x t] (setAdd S (.str x t)) >>= _) _ _ s')
      unfold setAdd
      refine wpAny_holding (wpAny_bind ((PySem.strKind prog w).pyHash (k := x) (strKind_is _ _ _ _) ?_))
      refine wpAny_setAddHashed_of (knd := PySem.strKind prog w) (s := { s' with toks := s'.toks + 1 }) (strKind_is _ _ _ _) rfl so cn fun h' but so2 => ?_
      have next : TxSet prog w h' S (xs.take (i + 1)) := by
        have same : ∀ k, (decide (k ∈ xs.take i) || decide (k = x)) = decide (k ∈ xs.take (i + 1)) := fun k => by
          rw [tk]
          simp [List.mem_append]
        by_cases m : x ∈ xs.take i
        · refine ⟨c, by rw [tk]; exact unl_old u m, PyProof.Rows.SetOf_congr so2 same ?_⟩
          rw [if_pos (decide_eq_true m)]
        · refine ⟨c + 1, by rw [tk]; exact unl_new u m, PyProof.Rows.SetOf_congr so2 same ?_⟩
          rw [if_neg (by rw [decide_eq_false m]; exact Bool.noConfusion)]
      have go := ih (i + 1) { s' with heap := h', toks := s'.toks + 1 } (by omega) (W.frame _ s' _ _ st' (Nat.le_succ _) fun b hb o e => by rw [but.2 b fun q : b = S => away (q ▸ hb)]; exact e) next fun s'' mv2 tx2 =>
        fin s'' (Moved.trans W.gtrans ((mv.mono wider).then_heap (Nat.le_succ _) fun b o hb e => by rw [but.2 b fun q : b = S => hb (q ▸ List.mem_cons_self)]; exact e) mv2) tx2
      exact wpAny_pure ⟨plainId_quiet F.plain_set_update_loop _, go⟩)
/-- a new set, as set() lays it -/
abbrev newSet (led : Bool) : Obj := { cls := .type "set", dict := none, data := .set #[] 0 (.fresh 0 0 led) }
variable {E : Value → Shared → Prop} {s : Shared}
set_option maxHeartbeats 3200000 in
theorem set_of_texts {l : Addr} {its : Array Value} {xs : List Str} {Q : Value → Shared → Prop} (calm : A.handled = none) (hl : s.heap.IsList l its) (hx : StrsAre its.toList xs) (few : xs.length + 1 < scanBound)
    (q : ∀ (h' : Heap) (tk : Nat), TxSet prog w h' s.heap.objs.size xs → (∀ b o, b < s.heap.objs.size → s.heap.get? b = some o → h'.get? b = some o) → Q (.ref s.heap.objs.size) { s with heap := h', toks := tk }) :
    wpAny (model prog w) A (call (.type "set") [.ref l]) Q E s := by
  have len : xs.length = its.size := by rw [← StrsAre.len_eq hx, Array.length_toList]
  obtain ⟨cm, tm, hmro⟩ := PySem.F.called_set.mro
  have b1 := PySem.F.called_set.made; have b2 := PySem.F.called_set.sub; have b3 := PySem.F.called_set.notType; have b4 := PySem.F.called_set.canCreate; have b5 := PySem.F.typeCall_set_1 (.ref l)
  refine wpAny_call (codeAny_of_tree (show wpAny _ _ (callAny (.type "set") _) _ _ _ from wpAny_pure ⟨Code.quiet_builtin _ (by decide +kernel), codeAny_builtin PySem.F.entry_type_call ?_⟩))
  rw [Around.under_plain (weight_type_call_type "set" [.ref l] []) rfl]
  repeat (any_goals (first | assumption | wp_step))
  have made := code_set_new_1 (prog := prog) (w := w) (A := A.in1) (s := s) (.ref l) (E := E) (Q₁ := fun v s1 => ∃ led, v = .ref s.heap.objs.size ∧ s1 = { s with heap := s.heap.push (newSet led) }) fun led => ⟨led, rfl, rfl⟩
  refine codeAny_mono made fun r s1 hr => ?_
  match r, hr with
  | .error e, hr => exact hr
  | .ok (.ret v), ⟨led, e1, e2⟩ =>
    subst e1 e2
    have at0 : (s.heap.push (newSet led)).get? s.heap.objs.size = some (newSet led) := Heap.get?_push_size _ rfl
    have ty0 : Shared.TypeIs { s with heap := s.heap.push (newSet led) } (.ref s.heap.objs.size) "set" := ⟨_, at0, rfl⟩
    have c1 := PySem.F.called_set.init.lookup; have c2 := PySem.F.called_set.init.bind (.ref s.heap.objs.size)
    repeat (any_goals (first | assumption | wp_step))
    have done_ : codeAny (model prog w) A.in1 (.call (.builtin "set.__init__") ⟨[.ref s.heap.objs.size, .ref l], []⟩)
        (wants (fun v s2 => v = .none ∧ ∃ h' tk, s2 = { s with heap := h', toks := tk } ∧ TxSet prog w h' s.heap.objs.size xs ∧ ∀ b o, b < s.heap.objs.size → s.heap.get? b = some o → h'.get? b = some o) E) { s with heap := s.heap.push (newSet led) } := by
      refine codeAny_call_builtin PySem.F.called_set.init.plain PySem.F.entry_set_init (check_set_init_1 ty0 ?_)
      obtain ⟨⟨ocl, odi, oda, osl⟩, hol, hcl, ln, hdl⟩ := id hl
      simp only at hcl hdl
      subst hcl hdl
      have ol := Heap.get?_push_of_some (newSet led) hol
      have il : (s.heap.push (newSet led)).IsList l its := ⟨_, ol, rfl, ln, rfl⟩
      have d1 := PySem.F.sub_list_set; have d2 := PySem.F.sub_list_frozenset; have d3 : (Value.type "list" == Value.type "dict") = false := by decide
      have ls : l < s.heap.objs.size := Heap.lt_size hol
      have ll : l ≠ (s.heap.push (newSet led)).objs.size := by rw [Heap.size_push]; exact Nat.ne_of_lt (Nat.lt.step ls)
      have away : s.heap.objs.size ∉ [(s.heap.push (newSet led)).objs.size, l] := by
        rw [Heap.size_push]
        simp only [List.mem_cons, List.not_mem_nil, or_false, not_or]
        exact ⟨Nat.ne_of_lt (Nat.lt.base _), (Nat.ne_of_lt ls).symm⟩
      have quiet3 : A.in1.in1.in1.handled = none := by simp [calm]
      unfold Builtin.«set.__init__» noKeywords Builtin.Frozenset.updateFrom
      generalize asked : pyIter = PI
      wp_walk
      subst asked
      have told : ∀ (i : Nat) (v : Value), its[i]? = some v → ∃ t, v = .str (xs.getD i Str.empty) t := fun i v hv => SS.strs_at hx i v (Array.getElem?_toList.trans hv)
      refine wpAny_pyIter_list il (wpAny_bind (wpAny_runValue (grow_texts (S := s.heap.objs.size) (Walks.list quiet3 _ l ll its).toS away len (by rw [← len]; exact few) told its.size 0 _ (Nat.zero_add _).symm ⟨⟨_, Heap.get?_push_size _ rfl, rfl, rfl⟩, il.push _⟩ ?_ fun s' mv tx => ?_)))
      · refine ⟨0, unl_nil, PyProof.Rows.SetOf_congr ((setObjOf_fresh (knd := PySem.strKind prog w) led).setOf (Heap.get?_push_of_some _ at0) (by unfold scanBound; omega)) (fun k => ?_) rfl⟩
        simp
      · obtain ⟨hs, gs, ds, ts, os⟩ := s'
        have m1 : gs = s.gens := mv.gens; have m2 : ds = s.drawn := mv.drawn; have m3 : os = s.os := mv.os
        subst m1 m2 m3
        show wpAny _ _ _ _ _ _
        refine wpAny_pure (show wpAny _ _ (ret Value.none) _ _ _ from wpAny_pure ⟨rfl, hs, ts, rfl, tx, fun b o hb e => mv.heap b o ?_ (Heap.get?_push_of_some _ (Heap.get?_push_of_some _ e))⟩)
        simp only [Heap.size_push, List.mem_cons, List.not_mem_nil, or_false, not_or]
        exact ⟨Nat.ne_of_lt hb, Nat.ne_of_lt (Nat.lt.step hb)⟩
    refine codeAny_mono done_ fun r2 s2 hr2 => ?_
    match r2, hr2 with
    | .error e, hr2 => exact hr2
    | .ok (.ret v), ⟨e1, h', tk, e2, tx, keep⟩ =>
      subst e1 e2
      repeat (any_goals (first | assumption | wp_step))
      exact q h' tk tx keep
end
end TW

namespace TW
open PySem PySem.Spec PyProof.Rows L2
section
variable {X : Cx}
/-- len(set(xs)), xs a list of texts -/
def tLenSetS (K : PySem.W.Frag) (ta : TE) : TE := fun σ H Q => ta σ H fun x H1 => ∃ (l : Addr) (xs : List Str), x = .ref l ∧ SqL K H1 l (xs.map V.str) ∧ xs.length + 1 < 4096 ∧ ∀ c, Unl xs c → Q (.int (c : Nat)) H1
theorem pe_lenSetS {a : Expr} {ta : TE} {p p2 q pos : Pos} (hc : X.calm = true) (hg : Gl X "len") (hm : X.mg "len" = none) (hg2 : Gl X "set") (hm2 : X.mg "set" = none) (ha : PE X a ta)
    (na : starEach [a] X.env = (false, eval a X.env) :: starEach [] X.env := by rfl) : PE X (.Call (.Name "len" p) [.Call (.Name "set" p2) [a] [] q] [] pos) (tLenSetS X.K ta) := by
  refine ⟨fun pins s σ H Q I h => Call_ (ld_blt I hg hm boot_len (PyProof.Rows.callWith_builtin1 (PyProof.Rows.args_cons (Call_ (ld_blt I hg2 hm2 boot_set (PyProof.Rows.callWith_type1 (PyProof.Rows.args_cons ?_ na) na rfl))) rfl) rfl rfl))⟩
  refine thn (ha.run pins s σ H _ I h) fun v s1 ⟨x, H1, I1, r1, l, xs, ex, hq, few, q1⟩ => PyProof.Rows.args_nil ?_
  subst ex
  cases r1
  obtain ⟨its, r, pl, _⟩ := I1.list hq
  refine set_of_texts (I1.ok.hd hc) pl.isList (by simpa using strsAre_of r) few fun h' tk tx keep => PyProof.Rows.args_nil ?_
  obtain ⟨c, u, o, es, ep, t, ho, hex, hd, _, _, _, hf, hn⟩ := tx
  have I2 : Inv X pins σ H1 { s1 with heap := h', toks := tk } := I1.kept fun b o e => keep b o (Heap.lt_size e) e
  have cl := u.1
  exact call_len_set ho hex hd hf (by unfold scanBound at *; omega) ⟨.int (c : Nat), H1, I2.tok _, ⟨_, by rw [hn]⟩, q1 c u⟩
end
end TW

namespace TW
open PySem PySem.Spec PyProof.Rows L2
/-! ### the inner walk of a comprehension of two -/
section
variable {J : It} {n : Nat} {G : Hp → Prop} {Y : Nat → Hp → V → Hp → Prop}
theorem in_walk (w : Walk J n G Y) {g : TG} {tt : TT} {te : TE} {vs : List Nat} {σ : L2.St} {H4 : Hp} {D : Addr} {Nx : Hp → Prop} (Pv : Nat → Hp → Prop) (start : Pv 0 H4) (hG : ∀ j H, j ≤ n → Pv j H → G H)
    (step : ∀ j x H H', j < n → Pv j H → Y j H x H' → g x (wipe σ vs) H' fun σ3 H5 => wipe σ3 vs = wipe σ vs ∧ tt σ3 H5 fun b H6 =>
      if b = true then te σ3 H6 fun y H7 => ∃ acc, H7 D = some (.lst acc) ∧ acc.length < sizeLine ∧ Pv (j + 1) (upd H7 D (.lst (acc ++ [y]))) else Pv (j + 1) H6) (done : ∀ H, Pv n H → Nx H) :
    ∃ W1 : Nat → Nat → Hp → Prop, (∃ m, W1 0 m H4) ∧ ∀ j k H, W1 j k H →
      (J.stop j H ∧ Nx H) ∨ (J.go j H ∧ ∃ Nx1 : Hp → Prop, (∀ H', Nx1 H' → ∃ k', k' < k ∧ W1 (j + 1) k' H') ∧ ∀ x H', J.yld j H x H' → g x (wipe σ vs) H' fun σ3 H5 => wipe σ3 vs = wipe σ vs ∧ tt σ3 H5 fun b H6 =>
        if b = true then te σ3 H6 fun y H7 => ∃ acc, H7 D = some (.lst acc) ∧ acc.length < sizeLine ∧ Nx1 (upd H7 D (.lst (acc ++ [y]))) else Nx1 H6) := by
  refine ⟨fun j m H => m = n - j ∧ j ≤ n ∧ Pv j H, ⟨n, by simp, Nat.zero_le _, start⟩, ?_⟩
  rintro j m H ⟨em, le, pv⟩
  subst em
  rcases Nat.lt_or_ge j n with lt | ge
  · exact .inr ⟨w.goes j H lt (hG j H le pv), Pv (j + 1), fun H' pv' => ⟨n - (j + 1), by omega, rfl, lt, pv'⟩, fun x H' y => step j x H H' lt pv (w.yields j H x H' lt (hG j H le pv) y)⟩
  · have ej : j = n := by omega
    subst ej
    exact .inl ⟨w.stops H (hG j H le pv), done H pv⟩
theorem in_list {K : PySem.W.Frag} {a : Addr} {xs : List V} {g : TG} {tt : TT} {te : TE} {vs : List Nat} {σ : L2.St} {H4 : Hp} {D : Addr} {Nx : Hp → Prop} (Pv : Nat → Hp → Prop) (start : Pv 0 H4) (hG : ∀ j H, j ≤ xs.length → Pv j H → SqL K H a xs)
    (step : ∀ j x H, xs[j]? = some x → Pv j H → g x (wipe σ vs) H fun σ3 H5 => wipe σ3 vs = wipe σ vs ∧ tt σ3 H5 fun b H6 =>
      if b = true then te σ3 H6 fun y H7 => ∃ acc, H7 D = some (.lst acc) ∧ acc.length < sizeLine ∧ Pv (j + 1) (upd H7 D (.lst (acc ++ [y]))) else Pv (j + 1) H6) (done : ∀ H, Pv xs.length H → Nx H) :
    ∃ W1 : Nat → Nat → Hp → Prop, (∃ m, W1 0 m H4) ∧ ∀ j k H, W1 j k H →
      ((Itl K a).stop j H ∧ Nx H) ∨ ((Itl K a).go j H ∧ ∃ Nx1 : Hp → Prop, (∀ H', Nx1 H' → ∃ k', k' < k ∧ W1 (j + 1) k' H') ∧ ∀ x H', (Itl K a).yld j H x H' → g x (wipe σ vs) H' fun σ3 H5 => wipe σ3 vs = wipe σ vs ∧ tt σ3 H5 fun b H6 =>
        if b = true then te σ3 H6 fun y H7 => ∃ acc, H7 D = some (.lst acc) ∧ acc.length < sizeLine ∧ Nx1 (upd H7 D (.lst (acc ++ [y]))) else Nx1 H6) :=
  in_walk (walk_list (K := K) (a := a) (xs := xs)) Pv start hG (fun j x H H' _ pv y => by
    obtain ⟨e, hx⟩ := y
    subst e
    exact step j x H' hx pv) done
/-- the outer walk, whatever is done in a turn -/
theorem out_list {K : PySem.W.Frag} {a : Addr} {xs : List V} {g : TG} {tt : TT} {vs : List Nat} {σ : L2.St} {H0 : Hp} {Qd : Hp → Prop} {B : L2.St → Hp → (Hp → Prop) → Prop} (Pv : Nat → Hp → Prop) (start : Pv 0 H0) (hG : ∀ i H, i ≤ xs.length → Pv i H → SqL K H a xs)
    (step : ∀ i x H, xs[i]? = some x → Pv i H → g x (wipe σ vs) H fun σ2 H2 => wipe σ2 vs = wipe σ vs ∧ tt σ2 H2 fun b H3 => if b = true then B σ2 H3 (Pv (i + 1)) else Pv (i + 1) H3) (done : ∀ H, Pv xs.length H → Qd H) :
    ∃ W : Nat → Nat → Hp → Prop, (∃ m, W 0 m H0) ∧ ∀ i m H, W i m H →
      ((Itl K a).stop i H ∧ Qd H) ∨ ((Itl K a).go i H ∧ ∃ Nx : Hp → Prop, (∀ H', Nx H' → ∃ m', m' < m ∧ W (i + 1) m' H') ∧ ∀ x H', (Itl K a).yld i H x H' → g x (wipe σ vs) H' fun σ2 H2 => wipe σ2 vs = wipe σ vs ∧ tt σ2 H2 fun b H3 =>
        if b = true then B σ2 H3 Nx else Nx H3) := by
  have w := walk_list (K := K) (a := a) (xs := xs)
  refine ⟨fun i m H => m = xs.length - i ∧ i ≤ xs.length ∧ Pv i H, ⟨xs.length, by simp, Nat.zero_le _, start⟩, ?_⟩
  rintro i m H ⟨em, le, pv⟩
  subst em
  rcases Nat.lt_or_ge i xs.length with lt | ge
  · refine .inr ⟨w.goes i H lt (hG i H le pv), Pv (i + 1), fun H' pv' => ⟨xs.length - (i + 1), by omega, rfl, lt, pv'⟩, fun x H' y => ?_⟩
    obtain ⟨e, hx⟩ := w.yields i H x H' lt (hG i H le pv) y
    subst e
    exact step i x H' hx pv
  · have ei : i = xs.length := by omega
    subst ei
    exact .inl ⟨w.stops H (hG _ H le pv), done H pv⟩
end
end TW

namespace TW
open PySem PySem.Spec PyProof.Rows L2 L2H HotX
/-! ### try .. except (A, B): raise .. from None, where what flies was raised with nothing handled -/
theorem flyingZ_push {B h : Heap} {l : List Env} {a : Addr} {Z : Obj → Prop} (x : HandSPX.FlyingZ B l a Z h) (o : Obj) : HandSPX.FlyingZ B l a Z (h.push o) := by
  obtain ⟨k1, k2, k3, oe, vs, T, oT, ts, he, hz, hd, h1, hT, hTe, gT, dT, h3⟩ := x
  exact ⟨fun b u e => Heap.get?_push_of_some _ (k1 b u e), k2, k3.of_keeps fun b u e _ => ⟨u, Heap.get?_push_of_some _ e, rfl⟩, oe, vs, T, oT, ts, Heap.get?_push_of_some _ he, hz, hd, h1, hT, hTe, Heap.get?_push_of_some _ gT, dT, h3⟩
/-- what the clause wishes: one of both, and its suite -/
def wTup2 (K : PySem.W.Frag) (c1 c2 : Value) (ts : Addr → Value → Option Addr → TS) (D : Ends) : WX := fun cls d σ H =>
  PySem.W.exmAny K cls [c1, c2] = some true ∧ ∀ a, H a = none → ts a cls d D σ H
section
variable {X : Cx} {x1 x2 : Str} {c1 c2 : Value} {body suite : List Stmt} {b₀ : Stmt} {p1 p2 tpos pos pos' : Pos} {kk : Nat} {tb : WX → TS} {ts : Addr → Value → Option Addr → TS} {Wout : WX}
theorem ps_try_tup2X (hs : X.stack = X.env :: X.outer) (hf : X.env.frame = some X.env.locals) (hc1 : Names X x1 c1) (hc2 : Names X x2 c2) (hpa : ∀ hd : Option Value, PassesOwnAt (model X.prog X.w) (X.A.mark hd) X.A X.env X.xe) (tk : L2.Takes X Wout)
    (hb : ∀ (W : WX) (pn : List (Addr × Obj)) (xe : Value → Shared → Prop), L2N.Takes (X.tr pn xe) W → PassesOwn (model X.prog X.w) X.A X.env xe → PSs (X.tr pn xe) body (tb W))
    (hsu : ∀ (a : Addr) (oe : Obj) (cls : Value) (d : Option Addr) (pn : List (Addr × Obj)), L2N.Zn cls d oe → (∃ vs, oe.data = .fields vs) → L2.Takes (suiteX X a ((a, oe) :: pn)) Wout → HotC (suiteX X a ((a, oe) :: pn)) →
      PSs (suiteX X a ((a, oe) :: pn)) (b₀ :: suite) (ts a cls d)) :
    PS X (.Try body [.ExceptHandler (some (.Tuple [.Name x1 p1, .Name x2 p2] kk tpos)) none (b₀ :: suite) pos'] [] [] pos) (fun D σ H => tb (wTup2 X.K c1 c2 ts D) D σ H) := by
  refine ⟨fun pins s σ H D I h => ?_⟩
  have ok := I.ok
  have hfr : X.A.frames = some (X.env :: X.outer) := by rw [ok.frames, hs]
  have notFr : ∀ {B h : Heap} {a : Addr} {o : Obj} {vs : Array Value}, h.FunFrames B (X.env :: X.outer) → h.get? a = some o → o.data = .fields vs → a ∉ frs (X.env :: X.outer) := fun {B h a o vs} ff e dd hm => by
    obtain ⟨_, o', e', hnf⟩ := ff.mem hm
    rw [e] at e'; cases e'
    exact hnf _ dd
  refine wpAny_Try_except ?_
  refine wpAny_mono ((hb (wTup2 X.K c1 c2 ts D) (X.pn ++ pins) (fun e s₁ => wpAny (model X.prog X.w) X.A (noteFrame e X.env) (fun _ s₂ => wpAny (model X.prog X.w) X.A (setFlight e none) (fun _ s₃ =>
    wpAny (model X.prog X.w) X.A (handleBy e X.env [.ExceptHandler (some (.Tuple [.Name x1 p1, .Name x2 p2] kk tpos)) none (b₀ :: suite) pos']) (SP X pins D) X.xe s₃) X.xe s₂) X.xe s₁) (fun u s' xx => ?_) PassesOwn.looking).run [] s σ H D (I.toTry _) h) (fun f s1 hsp => ?_) (fun e s1 he => he)
  · obtain ⟨a, B, sI, pins', σ', H', cls, d, rfl, J', nb, up, sky, na, os, ag, hb1, hyes⟩ := xx
    have J : Inv X pins σ' H' sI := J'.ofTry ok
    have sky' : L2.Sky B (X.env :: X.outer) a (L2N.Zn cls d) X.env.locals s'.heap := by rw [← hs]; exact sky
    show wpAny (model X.prog X.w) X.A (noteFrame (.ref a) X.env) _ _ _
    refine L2N.Sky.land L2N.Zn.steady hfr hf sky' fun h3 fl3 up3 => ?_
    have J3 : Inv X pins σ' H' { s' with heap := h3 } := J.landed nb fl3.1 (up.trans up3) os ag
    obtain ⟨oe3, vs3, he3, hz3, hd3⟩ := fl3.there
    have nfr : a ∉ frs (X.env :: X.outer) := notFr fl3.2.2.1 he3 hd3
    have nL : a ≠ X.env.locals := fun z => nfr (List.mem_filterMap.mpr ⟨X.env, List.mem_cons_self, by rw [hf, z]⟩)
    have nF : a ∉ X.fs := fun hm => by
      obtain ⟨e, he, q⟩ := List.mem_filterMap.mp hm
      exact nfr (List.mem_filterMap.mpr ⟨e, List.mem_cons_of_mem _ he, q⟩)
    have S3 := J3.suite he3 hd3 na nL nF
    refine wpAny_handleBy_cons (codeAny_handlers_test ?_) (by intro q; cases q)
    have test : ∀ {x : Str} {c : Value} {np : Pos} {Q : Value → Shared → Prop} {E : Value → Shared → Prop}, Names X x c → Q c { s' with heap := h3 } → wpAny (model X.prog X.w) (X.A.mark (some (.ref a))) (eval (.Name x np) X.env) Q E { s' with heap := h3 } := fun {x c np Q E} hc q => by
      obtain ⟨hg, hdbg, hm | ⟨hm, hv, hnn⟩⟩ := hc
      · exact ld_glob (X := X.suite a ((a, oe3) :: (X.pn ++ pins))) S3 hg hm q hdbg
      · exact ld_blt (X := X.suite a ((a, oe3) :: (X.pn ++ pins))) S3 hg hm hv q hnn hdbg
    refine Tuple_ (spliced_more (test hc1 (spliced_more (test hc2 (spliced_none ?_)))))
    refine wpAny_newObj_type ?_ (by show 2 ≤ sizeLine; decide)
    generalize hto : ({ cls := .type "tuple", data := .seq [c1, c2].toArray } : Obj) = to
    have fl3' : HandSPX.FlyingZ B (X.env :: X.outer) a (L2N.Zn cls d) (h3.push to) := flyingZ_push fl3 to
    have up3' : s'.heap.UpToSlots (h3.push to) := up3.trans (Heap.UpToSlots.of_keeps fun b o e => Heap.get?_push_of_some _ e)
    have J3' : Inv X pins σ' H' { s' with heap := h3.push to } := J.landed nb fl3'.1 (up.trans up3') os ag
    have LT : PySem.W.Looks (model X.prog X.w) (h3.push to) (typeOf (.ref a)) cls := fun A Q E s k q => wpAny_typeOf_ref (k _ _ (Heap.get?_push_of_some _ he3)) (by rw [hz3.1]; exact q)
    have LM := PySem.W.exm_tup2 (M := model X.prog X.w) J3'.kIn LT (tp := h3.objs.size) (by rw [← hto]; exact Heap.get?_push_size h3 rfl) hb1
    refine LM.here ?_
    refine codeAny_handlers_suite ?_
    refine HandSPX.lands_againZ fl3' fun h4 fl4 up4 => ?_
    have J4 : Inv X pins σ' H' { s' with heap := h4 } := J.landed nb fl4.1 ((up.trans up3').trans up4) os ag
    obtain ⟨oe4, vs4, he4, hz4, hd4⟩ := fl4.there
    have S4 := J4.suite he4 hd4 na nL nF
    have tkS : L2.Takes (suiteX X a ((a, oe4) :: (X.pn ++ pins))) Wout := fun u2 s2 x2 => by
      obtain ⟨a2, B2, sI2, pn2, σ2, H2, cls2, d2, e2, I2, nb2, up2, sky2, na2, os2, ag2, w2⟩ := x2
      exact tk u2 s2 ⟨a2, B2, sI2, pins, σ2, H2, cls2, d2, e2, unsuiteX I2 ok, nb2, up2, sky2, na2, os2, ag2, w2⟩
    have hot : HotC (suiteX X a ((a, oe4) :: (X.pn ++ pins))) := ⟨(a, oe4), ⟨rfl, vs4, hd4, hz4.2.2 vs4 hd4⟩, List.mem_cons_self⟩
    refine wpAny_mono ((hsu a oe4 cls d (X.pn ++ pins) hz4 ⟨_, hd4⟩ tkS hot).run [] _ _ H' _ (suiteX_of S4) (hyes a na)) (fun f s6 hsp => ?_) (fun e6 s6 z => hpa (some (.ref a)) e6 s6 z)
    cases f with
    | next =>
      obtain ⟨σ6, H6, S6, q6⟩ := hsp
      exact ⟨_, _, unsuiteX S6 ok, q6⟩
    | brk =>
      obtain ⟨σ6, H6, S6, q6⟩ := hsp
      exact ⟨_, _, unsuiteX S6 ok, q6⟩
    | cont =>
      obtain ⟨σ6, H6, S6, q6⟩ := hsp
      exact ⟨_, _, unsuiteX S6 ok, q6⟩
    | ret u =>
      obtain ⟨v6, σ6, H6, S6, r6, q6⟩ := hsp
      exact ⟨_, _, _, unsuiteX S6 ok, r6, q6⟩
  · cases f with
    | next =>
      obtain ⟨σ', H', J', q⟩ := hsp
      exact wpAny_execs_nil ⟨σ', H', J'.ofTry ok, q⟩
    | brk =>
      obtain ⟨σ', H', J', q⟩ := hsp
      exact ⟨σ', H', J'.ofTry ok, q⟩
    | cont =>
      obtain ⟨σ', H', J', q⟩ := hsp
      exact ⟨σ', H', J'.ofTry ok, q⟩
    | ret u =>
      obtain ⟨v, σ', H', J', r, q⟩ := hsp
      exact ⟨v, σ', H', J'.ofTry ok, r, q⟩
end
end TW

namespace TW
open PySem PySem.Spec PyProof.Rows L2 L2H HotX
/-! ### errors whose context is None -/
section
variable {X : Cx} {CX : CXT} {k k' : Nat} {C : Addr} {x f q : Str} {e : Expr} {te : TE} {p pos : Pos}
theorem pmk_oexN {es : List Expr} {ta : TA} {fI : Addr} {fd : FuncData} {ps : List Str} {sp : Sp} (T : OexC X.K C) (iC : PySem.W.findIn X.K (.ref C) "__init__" = some (some (.ref fI))) (tI : PySem.W.typeIn X.K (.ref fI) = some (.type "function"))
    (F1 : FnOk X.prog X.w X.K X.mg X.base CX k fI fd ps sp) (hr : Room (k + 1) X.A) (hb : Binds X.K fd ps []) (hx : Passes CX X (fun _ _ _ => False)) (hg : Gl X x) (hm : X.mg x = some (.ref C)) (ha : PA X (e :: es) ta)
    (hdb : (x == ("__debug__" : Str)) = false := by decide) (he : starEach (e :: es) X.env = (false, eval e X.env) :: starEach es X.env := by rfl) (hpl : (backTo pos (starEach es X.env)).any (·.1) = false := by rfl) :
    L2N.PMk X (.Call (.Name x p) (e :: es) [] pos) (tMkO C sp [] ta) := by
  intro pins s σ H Q I h
  obtain ⟨nm, q, N, bs, bm, sn, sub, ab, col, dd, k0, k1, k2, k3, k5, hC, hbm⟩ := T.cls
  refine wpAny_Call_Name_kw (ld_glob I hg hm ?_ hdb)
  refine PySem.W.callWith_K (h₀ := X.base) I.ok.mod.kin T.kC (thn (ha.run pos pins s σ H _ I h) fun us s1 ⟨vs, H1, I1, r1, hz, q1⟩ => ⟨I1.kIn, ?_⟩) he hpl
  show wpAny _ _ (call (.ref C) us) _ _ _
  obtain ⟨hp, g, dr, tk, os⟩ := s1
  have hsz : hp.objs.size ≤ hp.objs.size + 1 := Nat.le_succ _
  have hn : H1 (hp.objs.size + 1) = none := I1.hok.fresh hsz
  have hq := q1 (hp.objs.size + 1) hn
  rw [List.append_nil] at hq
  have kk : ∀ b o, hp.get? b = some o → ((hp.push (PySem.W.kdv_tup us)).push (PySem.HandSPX.excO C hp.objs.size)).get? b = some o := fun b o e => Heap.get?_push_of_some _ (Heap.get?_push_of_some _ e)
  have hget : ((hp.push (PySem.W.kdv_tup us)).push (PySem.HandSPX.excO C hp.objs.size)).get? (hp.objs.size + 1) = some (PySem.HandSPX.excO C hp.objs.size) := by heap_get
  have I2 : Inv X pins σ (upd H1 (hp.objs.size + 1) (exo (hp.objs.size + 1) C none)) ⟨(hp.push (PySem.W.kdv_tup us)).push (PySem.HandSPX.excO C hp.objs.size), g, dr, tk, os⟩ :=
    I1.laid (t' := tk) (a := hp.objs.size + 1) (o := exo (hp.objs.size + 1) C none) (h' := (hp.push (PySem.W.kdv_tup us)).push (PySem.HandSPX.excO C hp.objs.size)) kk hsz (exo_ok hget)
  have r2 : Vals (V.ref (hp.objs.size + 1) :: vs) (Value.ref (hp.objs.size + 1) :: us) := .cons rfl r1
  have hl : (Value.ref (hp.objs.size + 1) :: us ++ []).length = ps.length := by
    have e := r2.length
    rw [F1.len _ _ _ _ hq] at e
    rw [List.append_nil]
    exact e.symm
  have hus : us.length ≤ sizeLine := by
    rw [← Paired.length r1, sizeLine_eq]
    omega
  have b2 := hb _ (Value.ref (hp.objs.size + 1) :: us) I2.kIn hl
  rw [List.append_nil] at b2
  refine wpAny_call (PySem.HandSPX.call_own F.excBase_ValueError (fun Y => PySem.HandSPX.refsVE_contains Y bm hbm) (I1.kIn _ _ hC) (PySem.W.looks_findIn I1.kIn iC) (fun self => PySem.W.bind_fn I1.kIn self tI) hus
    (codeAny_mono (F1.run _ X.stack _ _ ⟨Value.ref (hp.objs.size + 1) :: us, []⟩ (Value.ref (hp.objs.size + 1) :: us) _ _ (fun _ _ _ => False) (hr.make C us []) (I2.env0.make C us []) b2 r2 hq) fun r s' hq' => ?_))
  cases r with
  | error er => exact hx pins σ _ _ er s' I2 hq'
  | ok fl =>
    cases fl with
    | ret u =>
      obtain ⟨v, H2, os2, bare2, un2, hok2, rv, ev, d, fs, ea, ed, hd1, q2⟩ := hq'
      subst ev
      obtain ⟨h2, g2, d2, t2, os'⟩ := s'
      obtain ⟨t0, G, J, kG, ge, hoe, na⟩ := mk_end0 (d2 := d2) (t2 := t2) I1 hsz kk un2 hok2 os2 bare2 ea ed hd1
      refine ⟨rv, hp.objs.size + 1, _, _, ⟨G, g2, d2, t2, os'⟩, _, .ref C, some d, rfl, J, kG, ge, hoe, ⟨rfl, rfl, fun vs hv => ?_⟩, rfl, rfl, na, rfl, bare2, raises_own T.exC T.tyC, q2⟩
      cases hv
      rfl
    | next => exact False.elim hq'
    | brk => exact False.elim hq'
    | cont => exact False.elim hq'
theorem tMkErr_of {σ : L2.St} {H : Hp} {Q : XK} (h : tMkErr C f te σ H Q) : tMkO C (spErr C f) [] (tCons (fun σ H Q => ∃ Q0 : VK, te σ H Q0 ∧ ∀ v H1, Q0 v H1 → Q v H1) tNil) σ H Q := by
  refine ⟨_, h, fun v H1 q => ⟨by show 1 ≤ 1000; decide, fun a na => ⟨a, v, rfl, upd_same, fun d nd dne => ⟨rfl, d, [(f, v)], upd_same, ?_, ?_, ?_⟩⟩⟩⟩
  · rw [upd_ne dne, upd_same]
  · rw [upd_ne dne] at nd
    exact nd
  · rw [upd_del na dne]
    rw [upd_ne dne] at nd
    exact q d nd
theorem pe_weak (he : PE X e te) : PE X e (fun σ H Q => ∃ Q0 : VK, te σ H Q0 ∧ ∀ v H1, Q0 v H1 → Q v H1) := ⟨fun pins s σ H Q I ⟨Q0, h0, hm⟩ =>
    wpAny_mono (he.run pins s σ H Q0 I h0) (fun _ _ ⟨v, H1, I1, r1, q1⟩ => ⟨v, H1, I1, r1, hm v H1 q1⟩) fun _ _ z => z⟩
theorem pmk_errN (D : ErrOk X.prog X.w X.K X.mg X.base CX k C x f q) (hr : Room k' X.A) (hx : Passes CX X (fun _ _ _ => False)) (he : PE X e te) (hk : k + 1 ≤ k' := by decide) (hg : Gl X x := by rfl)
    (hdb : (x == ("__debug__" : Str)) = false := by decide) (hs : starEach [e] X.env = (false, eval e X.env) :: starEach [] X.env := by rfl) (hpl : (backTo pos (starEach [] X.env)).any (·.1) = false := by rfl) :
    L2N.PMk X (.Call (.Name x p) [e] [] pos) (tMkErr C f te) := by
  obtain ⟨T, hm, fI, fd, iC, tI, hb, F1⟩ := D
  have R := pmk_oexN (p := p) (pos := pos) T.oex iC tI F1 (hr.mono hk) hb hx hg hm (pa_cons (pe_weak he) pa_nil hs) hdb hs hpl
  exact fun pins s σ H Q I h => R pins s σ H Q I (tMkErr_of h)
end
/-- the error class at C, made while another exception is handled -/
def ErrOkH (P : Program) (w : World) (K : PySem.W.Frag) (mg : Str → Option Value) (base : Heap) (CX : CXT) (k : Nat) (C : Addr) (x f p : Str) : Prop :=
  ErrC K C ∧ mg x = some (.ref C) ∧ ∃ (fI : Addr) (fd : FuncData), PySem.W.findIn K (.ref C) "__init__" = some (some (.ref fI)) ∧ PySem.W.typeIn K (.ref fI) = some (.type "function") ∧ Binds K fd ["self", p] [] ∧
    FnH P w K mg base CX k fI fd ["self", p] (spErr C f)
section
variable {X : Cx} {CX : CXT} {k k' : Nat} {C : Addr} {x f q : Str} {e : Expr} {te : TE} {p pos : Pos}
theorem pmk5_errH (D : ErrOkH X.prog X.w X.K X.mg X.base CX k C x f q) (hr : RoomH k' X.A) (hc : HotC X) (hx : Passes CX X (fun _ _ _ => False)) (he : PE X e te) (hk : k + 1 ≤ k' := by decide) (hg : Gl X x := by rfl)
    (hdb : (x == ("__debug__" : Str)) = false := by decide) (hs : starEach [e] X.env = (false, eval e X.env) :: starEach [] X.env := by rfl) (hpl : (backTo pos (starEach [] X.env)).any (·.1) = false := by rfl) :
    PMk5 X (.Call (.Name x p) [e] [] pos) (tMkErr C f te) := by
  obtain ⟨T, hm, fI, fd, iC, tI, hb, F1⟩ := D
  have R := pmk5_oexH (p := p) (pos := pos) T.oex iC tI F1 (hr.mono hk) hc hb hx hg hm (pa_cons (pe_weak he) pa_nil hs) hdb hs hpl
  exact fun pins s σ H Q I h => R pins s σ H Q I (tMkErr_of h)
end
section
variable {P : Program} {w : World} {K : PySem.W.Frag} {mg : Str → Option Value} {base : Heap}
theorem Fun.okN {x qual : Str} {st : Stmt} {f : Addr} {fd : FuncData} {N ps : List Str} {k : Nat} {sp : Sp} (F : Fun K x qual st f fd) (S : FnScope N ps (defScope st)) (len : ∀ vs H Q E, sp vs H Q E → vs.length = ps.length)
    (hbody : ∀ (cdv : Value) (A : Around) (outer : List Env) (s : Shared) (H : Hp) (vs : List V) (Q : VK) (E : XK), Room k (A.deeper (envOfC qual (defScope st) s.heap.objs.size f cdv)) → sp vs H Q E →
      ∃ t, PSs (cxOf (L2N.CX P w) P w K mg base N qual (defScope st) f cdv A outer s H E) (defBody st) t ∧ t { nx := fun _ H' => Q .non H', rt := Q } (start N vs) H) : FnOk P w K mg base (L2N.CX P w) (k + 1) f fd ps sp := by
  obtain ⟨oc, od, kV, doc, pm, an, cdv, ct, osl, rfl, lk, hcd⟩ := F.ex
  exact fn_of lk hcd S len fun A outer s H vs Q E hr hsp => hbody cdv A outer s H vs Q E hr hsp
theorem Fun.okH {CX : CXT} {x qual : Str} {st : Stmt} {f : Addr} {fd : FuncData} {N ps : List Str} {k : Nat} {sp : Sp} (F : Fun K x qual st f fd) (S : FnScope N ps (defScope st)) (len : ∀ vs H Q E, sp vs H Q E → vs.length = ps.length)
    (hbody : ∀ (cdv : Value) (A : Around) (outer : List Env) (s : Shared) (H : Hp) (vs : List V) (Q : VK) (E : XK) (p : Addr × Obj), Hot1 A p → RoomH k (A.deeper (envOfC qual (defScope st) s.heap.objs.size f cdv)) → sp vs H Q E →
      ∃ t, PSs (cxH CX P w K mg base N qual (defScope st) f cdv A outer s H E p) (defBody st) t ∧ t { nx := fun _ H' => Q .non H', rt := Q } (start N vs) H) : FnH P w K mg base CX (k + 1) f fd ps sp := by
  obtain ⟨oc, od, kV, doc, pm, an, cdv, ct, osl, rfl, lk, hcd⟩ := F.ex
  exact fn_ofH lk hcd S len fun A outer s H vs Q E p hot hr hsp => hbody cdv A outer s H vs Q E p hot hr hsp
/-- a rise that lets nothing out -/
theorem passLN {X : Cx} : Passes (L2N.CX X.prog X.w) X E0 := fun _ _ _ _ _ _ _ h => by
  obtain ⟨_, _, _, _, _, _, _, _, _, _, _, _, z⟩ := h
  exact z.elim
end
end TW

namespace TW
open PySem PySem.Spec PyProof.Rows L2
/-! ### C.m(e, ..), m a staticmethod that may raise, in a try -/
section
variable {X : Cx} {CX : CXT} {k k' : Nat} {C : Addr} {m : Str} {ps : List Str} {sp : Sp} {E : L2.St → XK} {e o : Expr} {es : List Expr} {ta : TE} {t : TA} {apos pos : Pos}
def tStatS (C : Addr) (sp : Sp) (E : L2.St → XK) (ta : TE) (t : TA) : TE := fun σ H Q => ta σ H fun x H1 => x = .ref C ∧ t σ H1 fun vs H2 => sp vs H2 Q (E σ)
theorem pe_statS {pl : Sem Bool} (D : StatOk X.prog X.w X.K X.mg X.base CX k C m ps [] sp) (hr : Room k' X.A) (hx : ∀ σ, PassesAt CX X σ (E σ)) (he : PE X o ta) (ha : PA X (e :: es) t) (hk : k ≤ k' := by decide)
    (hst : starEach (e :: es) X.env = (false, eval e X.env) :: starEach es X.env := by rfl) (hpl : (backTo pos (starEach es X.env)).any (·.1) = false := by rfl)
    (ht : eval (.Call (.Attribute o m apos) (e :: es) [] pos) X.env = (do
      let ov ← eval o X.env
      standAt apos.atName
      let (f, first) ← holding [ov] (getMethod ov m pl)
      callWith pos f first (backTo pos (starEach (e :: es) X.env)) (backToKw pos (keywordEach [] X.env))) := by rfl) :
    PE X (.Call (.Attribute o m apos) (e :: es) [] pos) (tStatS C sp E ta t) := by
  obtain ⟨mc, p, g, fd, ds, c, hb, hd, F⟩ := D
  cases hd
  refine ⟨fun pins s σ H Q I h => ?_⟩
  refine PySem.W.methodCall_KW (pl := pl) (thn (he.run pins s σ H _ I h) fun u s1 ⟨x, H1, I1, rx, ex, q⟩ => ?_) ht
  subst ex
  obtain rfl : u = Value.ref C := rx
  obtain ⟨rest, hp⟩ := c.rc
  obtain ⟨mf, fr⟩ := I1.fr
  refine PySem.W.method_cls I1.kIn c.ga (PySem.W.cls_sm fr I1.ok.mod.kin c.ty c.rd c.at_ hp rfl ?_)
  refine PySem.W.callWith_K (h₀ := X.base) I1.ok.mod.kin c.kp (thn (ha.run pos pins _ σ H1 _ (I1.tok _) q) fun us s2 ⟨vs, H2, I2, rv, q2⟩ => ⟨I2.kIn, ?_⟩) hst hpl
  exact run_fnS F (hr.mono hk) hb (hx σ) I2 rv q2
end
end TW

namespace TW
open PySem PySem.Spec PyProof.Rows L2
/-! ### the text by places -/
def top (i : Nat) : Stmt := PySem.Challenge.pw_turnwires_k05_texts_of_wires.main.body.getD i (.Pass ⟨0, 0, 0, 0⟩)
/-! ### values -/
def nv (n : Nat) : V := .int (n : Int)
theorem same_upd {H : Hp} {p : Addr} {o : HO} (h : H p = none) : Same H (upd H p o) := fun b x e => by rw [upd_ne (ne_of_none e h)]; exact e
/-- an object that was not tracked ahead may change -/
theorem mutS {H H' : Hp} {p : Addr} {o : HO} (e : Same H H') (h : H p = none) : Same H (upd H' p o) := fun a u ha => by rw [upd_ne (ne_of_none ha h)]; exact e a u ha
theorem small64 {n : Nat} (h : n ≤ 100000) : n < sizeLine := Nat.lt_of_le_of_lt h (by decide)
theorem small21 {n : Nat} (h : n ≤ 2000000) : n < sizeLine := Nat.lt_of_le_of_lt h (by decide)
theorem nv_get {l : List Nat} {i : Nat} {x : Nat} (h : l[i]? = some x) : (l.map nv)[i]? = some (nv x) := by rw [List.getElem?_map, h]; rfl
theorem of_nv_get {l : List Nat} {i : Nat} {y : V} (h : (l.map nv)[i]? = some y) : ∃ x, l[i]? = some x ∧ y = nv x := by
  rw [List.getElem?_map] at h
  cases e : l[i]? with
  | none => rw [e] at h; cases h
  | some x => rw [e] at h; exact ⟨x, rfl, (Option.some.inj h).symm⟩
theorem of_int_get {l : List Int} {i : Nat} {y : V} (h : (l.map V.int)[i]? = some y) : ∃ x, l[i]? = some x ∧ y = V.int x := by
  rw [List.getElem?_map] at h
  cases e : l[i]? with
  | none => rw [e] at h; cases h
  | some x => rw [e] at h; exact ⟨x, rfl, (Option.some.inj h).symm⟩
theorem decT {p : Prop} [Decidable p] {A B : Prop} (h : p) (a : A) : if (decide p) = true then A else B := by rw [decide_eq_true h]; exact iteT a
theorem decF {p : Prop} [Decidable p] {A B : Prop} (h : ¬ p) (b : B) : if (decide p) = true then A else B := by rw [decide_eq_false h]; exact iteF b
theorem yesT {σ : L2.St} {H : Hp} {A B : Hp → Prop} (h : A H) : tYes σ H (fun b H1 => if b = true then A H1 else B H1) := by
  show (if true = true then A H else B H)
  exact iteT h
/-- built-in names that the module leaves alone -/
structure Blt (mg : Str → Option Value) : Prop where
  len : mg "len" = none
  range : mg "range" = none
  int : mg "int" = none
  list : mg "list" = none
  enumerate : mg "enumerate" = none
  dict : mg "dict" = none
  zip : mg "zip" = none
  set : mg "set" = none
  sorted : mg "sorted" = none
  all : mg "all" = none
  abs : mg "abs" = none
  isinstance : mg "isinstance" = none
  bool : mg "bool" = none
section
variable {P : Program} {w : World} {K : PySem.W.Frag} {mg : Str → Option Value} {base : Heap}
/-! ### _law_cell: some int -/
abbrev s_l_cell : Stmt := top 20
theorem sc_l_cell : FnScope ["_law_script", "_law_k"] ["_law_script", "_law_k"] (defScope s_l_cell) := ⟨rfl, rfl, rfl, by decide +kernel, rfl, by decide +kernel, by decide +kernel⟩

def spCell (K : PySem.W.Frag) : Sp := fun vs H Q _ => ∃ (a : Addr) (ns : List Int) (k : Nat), vs = [.ref a, nv k] ∧ SqL K H a (ns.map V.int) ∧ ∀ z : Int, Q (.int z) H
theorem ok_cell {f : Addr} {fd : FuncData} (F : Fun K "_law_cell" "_law_cell" s_l_cell f fd) (T : Blt mg) : FnOk P w K mg base CX0 1 f fd ["_law_script", "_law_k"] (spCell K) := by
  refine F.ok sc_l_cell (fun vs H Q E h => ?_) (fun cdv A outer s H vs Q E hr h => ?_)
  · obtain ⟨a, ns, k, rfl, _⟩ := h; rfl
  · obtain ⟨a, ns, k, rfl, hS, q⟩ := h
    refine ⟨_, (pss_cons (ps_if (pt_cmpR op_lt (pv 1) (pe_callB call_len_seq (by rfl) T.len PySem.boot_len (pa_cons (pv 0) pa_nil)) (nomark _)) (pss_one (ps_ret (pe_ix ix_list (pv 0) (pv 1) (fun _ _ => rfl)))) pss_nil)
    (pss_one (ps_ret pe_int))), ?_⟩
    refine ⟨_, rfl, .ref a, rfl, a, _, rfl, .inl hS, _, _, rfl, rfl, _, rfl, ?_⟩
    by_cases c : k < ns.length
    · refine decT (by rw [List.length_map]; omega) ?_
      obtain ⟨z, hz⟩ : ∃ z, ns[k]? = some z := ⟨ns[k], List.getElem?_eq_getElem c⟩
      exact ⟨.ref a, rfl, _, rfl, a, _, _, _, rfl, rfl, hS, atI_nat (by rw [List.getElem?_map, hz]; rfl), q z⟩
    · refine decF (by rw [List.length_map]; omega) ?_
      exact q 0
end
section
variable {P : Program} {w : World} {K : PySem.W.Frag} {mg : Str → Option Value} {base : Heap}
/-! ### _law_row: a draw below each of the sizes -/
abbrev s_l_row : Stmt := top 21
theorem sc_l_row : FnScope ["_law_cell_here", "_law_sizes", "_law_out", "_law_size_here", "_law_seed", "_law_k", "_law_mixed"] ["_law_cell_here", "_law_sizes"] (defScope s_l_row) := ⟨rfl, rfl, rfl, by decide +kernel, rfl, by decide +kernel, by decide +kernel⟩

/-- the draws ds below the sizes ms, as far as they go -/
def Below (ds ms : List Nat) : Prop := ∀ (i d m : Nat), ds[i]? = some d → ms[i]? = some m → d < m
theorem Below.snoc {ds ms : List Nat} {d m : Nat} (h : Below ds ms) (hm : ms[ds.length]? = some m) (hd : d < m) : Below (ds ++ [d]) ms := by
  intro i e n he hn
  rw [List.getElem?_append] at he
  by_cases c : i < ds.length
  · rw [if_pos c] at he; exact h i e n he hn
  · rw [if_neg c] at he
    have hi : i - ds.length = 0 := by
      cases k : i - ds.length with
      | zero => rfl
      | succ j => rw [k] at he; simp at he
    rw [hi] at he
    have e1 : d = e := Option.some.inj he
    have e2 : i = ds.length := by omega
    rw [e2, hm] at hn
    rw [← e1, ← Option.some.inj hn]
    exact hd
def spRow (K : PySem.W.Frag) : Sp := fun vs H Q _ => ∃ (c : Int) (a : Addr) (ms : List Nat), vs = [.int c, .ref a] ∧ SqL K H a (ms.map nv) ∧ (∀ m ∈ ms, 0 < m ∧ m < 2 ^ 24) ∧ ms.length ≤ 1000 ∧
  ∀ (ds : List Nat) (p : Addr) (H' : Hp), Same H H' → H p = none → H' p = some (.lst (ds.map nv)) → ds.length = ms.length → Below ds ms → Q (.ref p) H'
theorem nat_int {z : Int} (h : 0 ≤ z) : V.int z = nv z.toNat := by
  show V.int z = V.int (z.toNat : Int)
  rw [Int.toNat_of_nonneg h]
theorem ok_row {f : Addr} {fd : FuncData} (F : Fun K "_law_row" "_law_row" s_l_row f fd) (T : Blt mg) : FnOk P w K mg base CX0 1 f fd ["_law_cell_here", "_law_sizes"] (spRow K) := by
  refine F.ok sc_l_row (fun vs H Q E h => ?_) (fun cdv A outer s H vs Q E hr h => ?_)
  · obtain ⟨c, a, ms, rfl, _⟩ := h; rfl
  · obtain ⟨c, a, ms, rfl, hS, hm, hlen, q⟩ := h
    refine ⟨_, (pss_cons (ps_set (i := 2) sc_l_row.nd rfl (.inl rfl) (pe_lst pa_nil))
    (pss_cons (ps_if (pt_cmpR op_ge (pv 0) (pe_op op_pow pe_int pe_int) (nomark _)) (pss_cons (ps_for PassesOwn.never rfl (pi_list (pv 1)) (pg_name (i := 3) sc_l_row.nd rfl (.inl rfl)) (pss_cons (ps_expr (pe_bm PySem.F.plainAttrs_list PySem.F.slot_list_append PySem.F.type_list_append mt_append (pv 2) (pa_cons (pe_op op_mod (pe_callTy call_int1 (by rfl) T.int (by decide +kernel) (pa_cons (pv 0) pa_nil)) (pv 3)) pa_nil)))
    (pss_one (ps_set (i := 0) sc_l_row.nd rfl (.inl rfl) (pe_op op_fdiv (pv 0) (pv 3))))))
    (pss_one (ps_ret (pv 2)))) pss_nil)
    (pss_cons (ps_set (i := 4) sc_l_row.nd rfl (.inl rfl) (pe_op op_mod (pe_callTy call_int1 (by rfl) T.int (by decide +kernel) (pa_cons (pv 0) pa_nil)) pe_int))
    (pss_cons (ps_for PassesOwn.never rfl (pi_range1 (by rfl) T.range (pa_cons (pe_callB call_len_seq (by rfl) T.len PySem.boot_len (pa_cons (pv 1) pa_nil)) pa_nil)) (pg_name (i := 5) sc_l_row.nd rfl (.inl rfl)) (pss_cons (ps_set (i := 6) sc_l_row.nd rfl (.inl rfl) (pe_op op_add (pe_op op_mod (pe_callTy call_int1 (by rfl) T.int (by decide +kernel) (pa_cons (pe_op op_pow (pe_op op_add (pe_op op_add (pv 4) (pe_op op_mul pe_int (pv 5))) pe_int) pe_int) pa_nil)) pe_int) (pv 5)))
    (pss_one (ps_expr (pe_bm PySem.F.plainAttrs_list PySem.F.slot_list_append PySem.F.type_list_append mt_append (pv 2) (pa_cons (pe_op op_mod (pe_callTy call_int1 (by rfl) T.int (by decide +kernel) (pa_cons (pe_op op_mod (pe_callTy call_int1 (by rfl) T.int (by decide +kernel) (pa_cons (pe_op op_mul (pv 6) pe_int) pa_nil)) pe_int) pa_nil)) (pe_ix ix_list (pv 1) (pv 5) (fun _ _ => rfl))) pa_nil))))))
    (pss_one (ps_ret (pv 2))))))), ?_⟩
    -- out = []
    refine ⟨Nat.zero_le _, fun o no => ?_⟩
    have s1 : Same H (upd H o (.lst [])) := same_upd no
    refine ⟨_, rfl, _, _, rfl, rfl, ⟨by decide, by decide, by decide⟩, _, _, rfl, rfl, _, rfl, ?_⟩
    refine ite2 (fun cc => ?_) (fun cc => ?_)
    · -- the great cell
      refine ⟨_, rfl, a, rfl, ⟨_, s1.seq hS⟩, for_list (K := K) (a := a) (xs := ms.map nv) (fun i σ H1 => ∃ (z : Int) (v : Option V) (ds : List Nat), σ = [some (.int z), some (.ref a), some (.ref o), v, none, none, none] ∧ Same H H1 ∧ H1 o = some (.lst (ds.map nv)) ∧ ds.length = i ∧ Below ds ms)
        ⟨c, none, [], rfl, s1, upd_same, rfl, fun i d m h => by simp at h⟩ (fun i σ H1 _ ⟨_, _, _, _, s2, _⟩ => s2.seq hS) ?_ ?_⟩
      · rintro i y σ H1 hi ⟨z, v, ds, rfl, s2, ho, hl, hb⟩
        obtain ⟨m, hmi, rfl⟩ := of_nv_get hi
        obtain ⟨m0, m1⟩ := hm m (List.mem_of_getElem? hmi)
        have h0 : 0 ≤ z % (m : Int) := Int.emod_nonneg _ (by omega)
        have h1 : z % (m : Int) < m := Int.emod_lt_of_pos _ (by omega)
        have hli : i < ms.length := (List.getElem?_eq_some_iff.mp hmi).1
        refine ⟨_, rfl, .inl ⟨rfl, _, .inl (.inl ho)⟩, _, rfl, .inl ⟨z, rfl, _, rfl, _, _, rfl, rfl, (by show (0 : Int) < m; omega), o, _, _, rfl, rfl, ho, small64 (by rw [List.length_map]; omega), ?_⟩⟩
        refine ⟨_, rfl, _, rfl, _, _, rfl, rfl, ⟨by omega, by omega⟩, ?_⟩
        refine ⟨z / m, _, ds ++ [(z % (m : Int)).toNat], rfl, mutS s2 no, ?_, by rw [List.length_append, hl]; rfl, hb.snoc (by rw [hl]; exact hmi) (by omega)⟩
        dsimp only
        rw [upd_same, List.map_append, nat_int h0]
        rfl
      · rintro σ H1 ⟨z, v, ds, rfl, s2, ho, hl, hb⟩
        exact ⟨_, rfl, q ds o H1 s2 no ho (by rw [hl, List.length_map]) hb⟩
    · -- seed
      refine ⟨_, rfl, .inl ⟨c, rfl, _, _, rfl, rfl, (by show (0 : Int) < 2147483647; decide), ?_⟩⟩
      dsimp only
      have g0 : 0 ≤ c % (2147483647 : Int) := Int.emod_nonneg _ (by decide)
      have g1 : c % (2147483647 : Int) < 2147483647 := Int.emod_lt_of_pos _ (by decide)
      generalize c % (2147483647 : Int) = sd at g0 g1
      refine ⟨.ref a, rfl, a, _, rfl, .inl (s1.seq hS), ((ms.map nv).length : Int), rfl, by omega, by rw [List.length_map]; omega, ?_⟩
      rw [Int.toNat_natCast, List.length_map]
      refine for_range (lo := 0) (n := ms.length) (fun i σ H1 => ∃ (v1 v2 : Option V) (ds : List Nat), σ = [some (.int c), some (.ref a), some (.ref o), none, some (.int sd), v1, v2] ∧ Same H H1 ∧ H1 o = some (.lst (ds.map nv)) ∧ ds.length = i ∧ Below ds ms)
        ⟨none, none, [], rfl, s1, upd_same, rfl, fun i d m h => by simp at h⟩ ?_ ?_
      · rintro i σ H1 hi ⟨v1, v2, ds, rfl, s2, ho, hl, hb⟩
        obtain ⟨m, hmi⟩ : ∃ m, ms[i]? = some m := ⟨ms[i], List.getElem?_eq_getElem hi⟩
        obtain ⟨m0, m1⟩ := hm m (List.mem_of_getElem? hmi)
        rw [Int.zero_add]
        refine ⟨_, rfl, _, rfl, _, _, rfl, rfl, .inl ⟨by decide, by decide⟩, _, _, rfl, rfl, _, _, rfl, rfl, _, _, rfl, rfl, ⟨by decide, by decide, by omega⟩, .inl ⟨_, rfl, _, _, rfl, rfl, (by show (0 : Int) < 2147483647; decide), _, rfl, _, _, rfl, rfl, ?_⟩⟩
        dsimp only
        generalize hX : (sd + 7919 * (i : Int) + 104729) ^ (5 : Int).toNat = x
        have x0 : 0 ≤ x % (2147483647 : Int) := Int.emod_nonneg _ (by decide)
        have x1 : x % (2147483647 : Int) < 2147483647 := Int.emod_lt_of_pos _ (by decide)
        generalize x % (2147483647 : Int) = y at x0 x1
        refine ⟨_, rfl, .inl ⟨rfl, _, .inl (.inl ho)⟩, _, rfl, _, _, rfl, rfl, .inl ⟨by omega, by omega⟩, .inl ⟨_, rfl, _, _, rfl, rfl, (by show (0 : Int) < 2147483629; decide), .inl ⟨_, rfl, .ref a, rfl, _, rfl, a, _, _, _, rfl, rfl, s2.seq hS, atI_nat (nv_get hmi), ?_⟩⟩⟩
        have h0 : 0 ≤ (y + (i : Int)) * 40692 % 2147483629 % (m : Int) := Int.emod_nonneg _ (by omega)
        have h1 : (y + (i : Int)) * 40692 % 2147483629 % (m : Int) < m := Int.emod_lt_of_pos _ (by omega)
        refine ⟨_, _, rfl, rfl, (by omega), o, _, _, rfl, rfl, ho, small64 (by rw [List.length_map]; omega), ?_⟩
        refine ⟨_, _, ds ++ [((y + (i : Int)) * 40692 % 2147483629 % (m : Int)).toNat], rfl, mutS s2 no, ?_, by rw [List.length_append, hl]; rfl, hb.snoc (by rw [hl]; exact hmi) (by omega)⟩
        dsimp only
        rw [upd_same, List.map_append, nat_int h0]
        rfl
      · rintro σ H1 ⟨v1, v2, ds, rfl, s2, ho, hl, hb⟩
        exact ⟨_, rfl, q ds o H1 s2 no ho hl hb⟩
end
section
variable {P : Program} {w : World} {K : PySem.W.Frag} {mg : Str → Option Value} {base : Heap}
/-! ### _law_drawn: a list of the places below n, each once -/
abbrev s_l_drawn : Stmt := top 22
theorem sc_l_drawn : FnScope ["_law_cell_here", "_law_n", "_law_left", "_law_draw", "_law_k"] ["_law_cell_here", "_law_n"] (defScope s_l_drawn) := ⟨rfl, rfl, rfl, by decide +kernel, rfl, by decide +kernel, by decide +kernel⟩

def spDrawn : Sp := fun vs H Q _ => ∃ (c : Int) (n : Nat), vs = [.int c, nv n] ∧ n ≤ 100 ∧
  ∀ (im : List Nat) (p : Addr) (H' : Hp), Same H H' → H p = none → H' p = some (.lst (im.map nv)) → IsPerm im → im.length = n → Q (.ref p) H'
theorem rgV_nat (n : Nat) : rgV 0 (n : Int) = (List.range n).map nv := by
  unfold rgV
  rw [show ((n : Int) - 0).toNat = n by omega]
  refine List.map_congr_left fun i _ => ?_
  show V.int (0 + (i : Int)) = V.int i
  rw [Int.zero_add]
theorem ok_drawn {f : Addr} {fd : FuncData} (F : Fun K "_law_drawn" "_law_drawn" s_l_drawn f fd) (T : Blt mg) (D_l_row : DefOk P w K mg base CX0 1 "_law_row" ["_law_cell_here", "_law_sizes"] [] (spRow K)) :
    FnOk P w K mg base CX0 2 f fd ["_law_cell_here", "_law_n"] spDrawn := by
  refine F.ok sc_l_drawn (fun vs H Q E h => ?_) (fun cdv A outer s H vs Q E hr h => ?_)
  · obtain ⟨c, n, rfl, _⟩ := h; rfl
  · obtain ⟨c, n, rfl, hn, q⟩ := h
    refine ⟨_, (pss_cons (ps_set (i := 2) sc_l_drawn.nd rfl (.inr rfl) (pe_listRg rfl (by rfl) T.list (prg_1 (by rfl) T.range (pv 1))))
    (pss_one (ps_ret (pe_lc (own := [("_law_draw", 3)]) (tt := tYes) (te := tBM K "list" rPopAt (tVar 2) (tCons (tVar 3) tNil)) rfl sc_l_drawn.nd (pi_list (pe_d D_l_row hr pass0 (pa_cons (pv 0) (pa_cons (pe_lc (own := [("_law_k", 4)]) (tt := tYes) rfl sc_l_drawn.nd (pi_range1 (by rfl) T.range (pa_cons (pv 1) pa_nil)) (blkOk_by (N := ["_law_cell_here", "_law_n", "_law_left", "_law_draw", "_law_k"]) (sc := defScope s_l_drawn) (by decide +kernel)) (fun _ _ _ _ _ => (pg_name (i := 4) sc_l_drawn.nd rfl (.inl rfl))) (fun _ _ _ _ _ => pts_nil) (fun _ _ _ _ _ => by exact (pe_op op_sub (pv 1) (pv 4)))) pa_nil)))) (blkOk_by (N := ["_law_cell_here", "_law_n", "_law_left", "_law_draw", "_law_k"]) (sc := defScope s_l_drawn) (by decide +kernel)) (fun _ _ _ _ _ => (pg_name (i := 3) sc_l_drawn.nd rfl (.inl rfl))) (fun _ _ _ _ _ => pts_nil) (fun _ _ _ _ _ => by exact (pe_bm PySem.F.plainAttrs_list PySem.F.slot_list_pop PySem.F.type_list_pop mt_popAt (pv 2) (pa_cons (pv 3) pa_nil))))))), ?_⟩
    -- _law_left = list(range(_law_n))
    refine ⟨_, rfl, _, rfl, ⟨by omega, by omega, by omega, by omega, by omega⟩, fun L nL => ?_⟩
    rw [rgV_nat]
    have s1 : Same H (upd H L (.lst ((List.range n).map nv))) := same_upd nL
    -- the sizes
    refine ⟨_, rfl, _, rfl, _, rfl, by omega, by omega, fun D nD => ?_⟩
    rw [Int.toNat_natCast]
    refine lc_range (lo := 0) (n := n) (fun i H1 => Same (upd H L (.lst ((List.range n).map nv))) H1 ∧ H1 D = some (.lst ((((List.range n).map fun k => n - k).take i).map nv))) ⟨same_upd nD, upd_same⟩ ?_ ?_
    · rintro i H1 hi ⟨s2, hD⟩
      rw [Int.zero_add]
      refine ⟨rfl, ?_⟩
      refine yesT ?_
      refine ⟨_, rfl, _, rfl, _, _, rfl, rfl, _, hD, small64 (by rw [List.length_map, List.length_take]; omega), mutS s2 nD, ?_⟩
      have e : ((List.range n).map fun k => n - k)[i]? = some (n - i) := by rw [List.getElem?_map, List.getElem?_range hi]; rfl
      rw [upd_same, List.take_add_one, e, List.map_append]
      dsimp only
      rw [show (n : Int) - (i : Int) = ((n - i : Nat) : Int) by omega]
      rfl
    · rintro H1 ⟨s2, hD⟩
      rw [List.take_of_length_le (by rw [List.length_map, List.length_range]; exact Nat.le_refl _)] at hD
      have nLD : L ≠ D := ne_of_none (H := upd H L (.lst ((List.range n).map nv))) upd_same nD
      refine ⟨c, D, (List.range n).map fun k => n - k, rfl, SqL.of hD, fun m hm => ?_, by rw [List.length_map, List.length_range]; omega, fun ds p H2 s3 np hp hl hb => ?_⟩
      · obtain ⟨k, hk, rfl⟩ := List.mem_map.mp hm
        have := List.mem_range.mp hk
        omega
      rw [List.length_map, List.length_range] at hl
      have s4 : Same (upd H L (.lst ((List.range n).map nv))) H2 := s2.trans s3
      have hL2 : H2 L = some (.lst ((List.range n).map nv)) := s4 L _ upd_same
      have nLp : L ≠ p := ne_of_none (s2 L _ upd_same) np
      -- the draws
      refine ⟨p, rfl, ⟨_, SqL.of hp⟩, fun O nO => ?_⟩
      have nOL : L ≠ O := ne_of_none hL2 nO
      have nOp : p ≠ O := ne_of_none hp nO
      refine lc_list (K := K) (a := p) (xs := ds.map nv) (fun i H3 => ∃ im rest : List Nat, Same H H3 ∧ H3 p = some (.lst (ds.map nv)) ∧ H3 L = some (.lst (rest.map nv)) ∧ H3 O = some (.lst (im.map nv)) ∧ im.length = i ∧ rest.length + i = n ∧ (im ++ rest).Perm (List.range n))
        ⟨[], List.range n, (s1.trans s4).trans (same_upd nO), by rw [upd_ne nOp]; exact hp, by rw [upd_ne nOL]; exact hL2, upd_same, rfl, by rw [List.length_range]; rfl, List.Perm.refl _⟩ (fun i H3 _ ⟨_, _, _, h, _⟩ => SqL.of h) ?_ ?_
      · rintro i y H3 hi ⟨im, rest, s5, h1, h2, h3, l1, l2, pm⟩
        obtain ⟨d, hd, rfl⟩ := of_nv_get hi
        have hin : i < n := by
          have := (List.getElem?_eq_some_iff.mp hd).1
          omega
        have hdn : d < n - i := hb i d (n - i) hd (by rw [List.getElem?_map, List.getElem?_range hin]; rfl)
        obtain ⟨x, hx⟩ : ∃ x, rest[d]? = some x := ⟨rest[d]'(by omega), List.getElem?_eq_getElem (by omega)⟩
        have hel := erase_len hx
        refine ⟨rfl, ?_⟩
        refine yesT ?_
        refine ⟨.ref L, rfl, .inl ⟨rfl, _, .inl (.inl h2)⟩, _, rfl, L, _, _, d, _, rfl, rfl, h2, by omega, by omega, ?_, nv_get hx, im.map nv, ?_, small64 (by rw [List.length_map, l1]; omega), im ++ [x], rest.eraseIdx d, ?_⟩
        · rw [seqIndex_of (by omega) (by rw [List.length_map]; omega), Int.toNat_natCast]
        · rw [upd_ne nOL.symm]; exact h3
        refine ⟨?_, ?_, ?_, ?_, by rw [List.length_append, l1]; rfl, by omega, draw_step pm hx⟩
        · exact mutS (mutS s5 nL) ((s1.trans s4).free nO)
        · rw [upd_ne nOp, upd_ne nLp.symm]; exact h1
        · rw [upd_ne nOL, upd_same, erase_map]
        · rw [upd_same, List.map_append]; rfl
      · rintro H3 ⟨im, rest, s5, h1, h2, h3, l1, l2, pm⟩
        rw [List.length_map, hl] at l1 l2
        have er : rest = [] := List.length_eq_zero_iff.mp (by omega)
        rw [er, List.append_nil] at pm
        obtain ⟨ip, il⟩ := isPerm_of pm
        exact q im O H3 s5 ((s1.trans s4).free nO) h3 ip il
/-! ### _law_size -/
abbrev s_l_size : Stmt := top 28
theorem sc_l_size : FnScope ["_law_draw"] ["_law_draw"] (defScope s_l_size) := ⟨rfl, rfl, rfl, by decide +kernel, rfl, by decide +kernel, by decide +kernel⟩

def spSize : Sp := fun vs H Q _ => ∃ d : Nat, vs = [nv d] ∧ ∀ n : Nat, 1 ≤ n → n ≤ 60 → Q (nv n) H
theorem ok_size {f : Addr} {fd : FuncData} (F : Fun K "_law_size" "_law_size" s_l_size f fd) : FnOk P w K mg base CX0 1 f fd ["_law_draw"] spSize := by
  refine F.ok sc_l_size (fun vs H Q E h => ?_) (fun cdv A outer s H vs Q E hr h => ?_)
  · obtain ⟨d, rfl, _⟩ := h; rfl
  · obtain ⟨d, rfl, q⟩ := h
    refine ⟨_, (pss_cons (ps_if (pt_cmpR op_eq (pe_op op_mod (pv 0) pe_int) pe_int (nomark _)) (pss_one (ps_ret (pe_op op_sub pe_int (pe_op op_mod (pe_op op_fdiv (pv 0) pe_int) pe_int)))) pss_nil)
    (pss_one (ps_ret (pe_op op_add pe_int (pe_op op_mod (pe_op op_fdiv (pv 0) pe_int) pe_int))))), ?_⟩
    refine ⟨_, rfl, _, _, rfl, rfl, (by show (0 : Int) < 8; decide), rfl, _, rfl, ite2 (fun _ => ?_) (fun _ => ?_)⟩
    · refine ⟨_, rfl, _, _, rfl, rfl, ⟨by decide, by decide⟩, _, _, rfl, rfl, (by show (0 : Int) < 9; decide), _, _, rfl, rfl, ?_⟩
      have e : V.int (60 - (d : Int) / 8 % 9) = nv (60 - d / 8 % 9) := by
        show V.int _ = V.int _
        congr 1
        omega
      show Q (V.int (60 - (d : Int) / 8 % 9)) H
      rw [e]
      exact q _ (by omega) (by omega)
    · refine ⟨_, rfl, _, _, rfl, rfl, ⟨by decide, by decide⟩, _, _, rfl, rfl, (by show (0 : Int) < 12; decide), _, _, rfl, rfl, ?_⟩
      exact q (1 + d / 8 % 12) (by omega) (by omega)
end
/-! ### lists of lists of places -/
structure Rg (H : Hp) (as : List Addr) (rs : List (List Nat)) : Prop where
  len : as.length = rs.length
  at_ : ∀ (i : Nat) (a : Addr) (r : List Nat), as[i]? = some a → rs[i]? = some r → H a = some (.lst (r.map nv))
theorem Rg.nil {H : Hp} : Rg H [] [] := ⟨rfl, fun i a r h _ => by simp at h⟩
theorem Rg.mono {H H' : Hp} {as : List Addr} {rs : List (List Nat)} (g : Rg H as rs) (s : Same H H') : Rg H' as rs := ⟨g.len, fun i a r h1 h2 => s _ _ (g.at_ i a r h1 h2)⟩
theorem Rg.know {H : Hp} {as : List Addr} {rs : List (List Nat)} (g : Rg H as rs) {a : Addr} (h : a ∈ as) : ∃ r : List Nat, H a = some (.lst (r.map nv)) := by
  obtain ⟨i, hi, e⟩ := List.mem_iff_getElem.mp h
  have hr : i < rs.length := by rw [← g.len]; exact hi
  exact ⟨rs[i], g.at_ i a _ (by rw [← e]; exact List.getElem?_eq_getElem hi) (List.getElem?_eq_getElem hr)⟩
theorem Rg.upd {H : Hp} {as : List Addr} {rs : List (List Nat)} (g : Rg H as rs) {p : Addr} {o : HO} (h : p ∉ as) : Rg (upd H p o) as rs := ⟨g.len, fun i a r h1 h2 => by
  rw [upd_ne (fun e => h (by rw [← e]; exact List.mem_of_getElem? h1))]
  exact g.at_ i a r h1 h2⟩
theorem Rg.snoc {H : Hp} {as : List Addr} {rs : List (List Nat)} (g : Rg H as rs) {a : Addr} {r : List Nat} (h : H a = some (.lst (r.map nv))) : Rg H (as ++ [a]) (rs ++ [r]) := by
  refine ⟨by rw [List.length_append, List.length_append, g.len]; rfl, fun i b q h1 h2 => ?_⟩
  rw [List.getElem?_append] at h1 h2
  by_cases c : i < as.length
  · rw [if_pos c] at h1
    rw [if_pos (by rw [← g.len]; exact c)] at h2
    exact g.at_ i b q h1 h2
  · rw [if_neg c] at h1
    rw [if_neg (by rw [← g.len]; exact c)] at h2
    cases k : i - as.length with
    | zero =>
      rw [k] at h1
      rw [← g.len, k] at h2
      have e1 : a = b := Option.some.inj h1
      have e2 : r = q := Option.some.inj h2
      rw [← e1, ← e2]
      exact h
    | succ j => rw [k] at h1; simp at h1
theorem all_flat (l : List Nat) : (l.map nv).all flatV = true := by
  rw [List.all_eq_true]
  intro x hx
  obtain ⟨y, _, rfl⟩ := List.mem_map.mp hx
  rfl
theorem inV_nv (p : Nat) (l : List Nat) : inV (nv p) (l.map nv) = decide (p ∈ l) := by
  unfold inV
  induction l with
  | nil => rfl
  | cons a l ih =>
    rw [List.map_cons, List.any_cons, ih]
    show ((a : Int) == (p : Int) || decide (p ∈ l)) = decide (p ∈ a :: l)
    by_cases c : p = a
    · subst c; simp
    · have : ((a : Int) == (p : Int)) = false := by
        rw [beq_eq_false_iff_ne]
        omega
      rw [this, Bool.false_or]
      simp [c]
section
variable {P : Program} {w : World} {K : PySem.W.Frag} {mg : Str → Option Value} {base : Heap}
/-! ### _law_rings -/
abbrev s_l_rings : Stmt := top 24
theorem sc_l_rings : FnScope ["_law_images", "_law_out", "_law_seen", "_law_place", "_law_ring"] ["_law_images"] (defScope s_l_rings) := ⟨rfl, rfl, rfl, by decide +kernel, rfl, by decide +kernel, by decide +kernel⟩

def spRings (K : PySem.W.Frag) : Sp := fun vs H Q _ => ∃ (a : Addr) (im : List Nat), vs = [.ref a] ∧ SqL K H a (im.map nv) ∧ IsPerm im ∧ im.length ≤ 1000 ∧
  ∀ (o : Addr) (as : List Addr) (H' : Hp), Same H H' → H o = none → (∀ a ∈ as, H a = none) → o ∉ as → as.Nodup → H' o = some (.lst (as.map V.ref)) → Rg H' as (rings (ap im) im.length) → Q (.ref o) H'
theorem ok_l_rings {f : Addr} {fd : FuncData} (F : Fun K "_law_rings" "_law_rings" s_l_rings f fd) (T : Blt mg) : FnOk P w K mg base CX0 1 f fd ["_law_images"] (spRings K) := by
  refine F.ok sc_l_rings (fun vs H Q E h => ?_) (fun cdv A outer s H vs Q E hr h => ?_)
  · obtain ⟨a, im, rfl, _⟩ := h; rfl
  · obtain ⟨a, im, rfl, hS, hI, hn, q⟩ := h
    have P := hI.perm
    refine ⟨_, (pss_cons (ps_set (i := 1) sc_l_rings.nd rfl (.inl rfl) (pe_lst pa_nil))
    (pss_cons (ps_set (i := 2) sc_l_rings.nd rfl (.inl rfl) (pe_lst pa_nil))
    (pss_cons (ps_for PassesOwn.never rfl (pi_range1 (by rfl) T.range (pa_cons (pe_callB call_len_seq (by rfl) T.len PySem.boot_len (pa_cons (pv 0) pa_nil)) pa_nil)) (pg_name (i := 3) sc_l_rings.nd rfl (.inl rfl)) (pss_one (ps_if (pt_cmpR op_notIn_seq (pv 3) (pv 2) rfl) (pss_cons (ps_set (i := 4) sc_l_rings.nd rfl (.inl rfl) (pe_lst (pa_cons (pv 3) pa_nil)))
    (pss_cons (ps_while PassesOwn.never (pt_cmpR op_ne (pe_ix ix_list (pv 0) (pe_ix ix_list (pv 4) (pe_un un_neg pe_int) (fun _ _ => rfl)) (fun _ _ => rfl)) (pv 3) (nomark _)) (pss_one (ps_expr (pe_bm PySem.F.plainAttrs_list PySem.F.slot_list_append PySem.F.type_list_append mt_append (pv 4) (pa_cons (pe_ix ix_list (pv 0) (pe_ix ix_list (pv 4) (pe_un un_neg pe_int) (fun _ _ => rfl)) (fun _ _ => rfl)) pa_nil)))))
    (pss_cons (ps_set (i := 2) sc_l_rings.nd rfl (.inl rfl) (pe_op op_cat (pv 2) (pv 4)))
    (pss_one (ps_if (pt_cmpR op_gt (pe_callB call_len_seq (by rfl) T.len PySem.boot_len (pa_cons (pv 4) pa_nil)) pe_int (nomark _)) (pss_one (ps_expr (pe_bm PySem.F.plainAttrs_list PySem.F.slot_list_append PySem.F.type_list_append mt_append (pv 1) (pa_cons (pv 4) pa_nil)))) pss_nil))))) pss_nil)))
    (pss_one (ps_ret (pv 1)))))), ?_⟩
    -- out = []; seen = []
    refine ⟨Nat.zero_le _, fun o no => ⟨Nat.zero_le _, fun e ne => ?_⟩⟩
    have s1 : Same H (upd H o (.lst [])) := same_upd no
    have s2 : Same H (upd (upd H o (.lst [])) e (.lst [])) := s1.trans (same_upd ne)
    have noe : o ≠ e := ne_of_none (H := upd H o (.lst [])) upd_same ne
    refine ⟨_, rfl, a, _, rfl, .inl (s2.seq hS), _, rfl, by omega, by rw [List.length_map]; omega, ?_⟩
    rw [Int.toNat_natCast, List.length_map]
    refine for_range (lo := 0) (n := im.length) (fun i σ H1 => ∃ (v3 v4 : Option V) (sn : List Nat) (x : Addr) (as : List Addr), σ = [some (.ref a), some (.ref o), some (.ref x), v3, v4] ∧ Same H H1 ∧
        H1 x = some (.lst (sn.map nv)) ∧ (∀ y, y ∈ sn ↔ ∃ q, q < i ∧ y ∈ ring (ap im) im.length q) ∧ sn.length ≤ i * 1000 ∧ x ≠ o ∧ H x = none ∧
        H1 o = some (.lst (as.map V.ref)) ∧ Rg H1 as (ringsTo (ap im) im.length i) ∧ o ∉ as ∧ as.Nodup ∧ (∀ a ∈ as, H a = none))
      ⟨none, none, [], e, [], rfl, s2, upd_same, fun y => ⟨fun h => by simp at h, fun ⟨q, h, _⟩ => absurd h (Nat.not_lt_zero _)⟩, Nat.zero_le _, noe.symm, s1.free ne, by rw [upd_ne noe, upd_same]; rfl, Rg.nil, by simp, by simp, by simp⟩ ?_ ?_
    · rintro i σ H1 hi ⟨v3, v4, sn, x, as, rfl, s3, hx, hsn, hsl, nxo, nx, ho, hg, hoa, hnd, hfr⟩
      rw [Int.zero_add]
      -- place not in seen
      refine ⟨_, rfl, _, rfl, x, _, rfl, .inl (SqL.of hx), rfl, all_flat sn, _, rfl, ?_⟩
      have ei : inV (V.int (i : Int)) (sn.map nv) = decide (i ∈ sn) := inV_nv i sn
      rw [ei]
      by_cases c : i ∈ sn
      · rw [decide_eq_true c]
        refine iteF ?_
        have l0 := (seen_lead P hi hsn).mp c
        exact ⟨_, v4, sn, x, as, rfl, s3, hx, seen_skip P hi hsn c, by omega, nxo, nx, ho, by rw [ringsTo_skip l0]; exact hg, hoa, hnd, hfr⟩
      · rw [decide_eq_false c]
        refine iteT ?_
        have l1 : lead (ap im) im.length i = true := by
          cases z : lead (ap im) im.length i with
          | true => rfl
          | false => exact absurd ((seen_lead P hi hsn).mpr z) c
        obtain ⟨p0, pe, pl, _⟩ := per_spec P hi
        -- ring = [place]
        refine ⟨_, rfl, by show 1 ≤ sizeLine; decide, fun r nr => ?_⟩
        have nro : o ≠ r := ne_of_none ho nr
        have nrx : x ≠ r := ne_of_none hx nr
        have s4 : ∀ z, Same H (upd H1 r z) := fun z => mutS s3 (s3.free nr)
        -- while
        refine ⟨fun m σ H2 => ∃ j, j < per (ap im) im.length i ∧ m = per (ap im) im.length i - (j + 1) ∧ σ = [some (.ref a), some (.ref o), some (.ref x), some (nv i), some (.ref r)] ∧ H2 = upd H1 r (.lst ((pref (ap im) i (j + 1)).map nv)), ⟨_, 0, p0, rfl, rfl, rfl⟩, ?_⟩
        rintro m σ H2 ⟨j, hj, rfl, rfl, rfl⟩
        have hA := (s4 (.lst ((pref (ap im) i (j + 1)).map nv))).seq hS
        have eP : (pref (ap im) i (j + 1)).map nv = (pref (ap im) i j).map nv ++ [nv (it (ap im) j i)] := by rw [pref_succ, List.map_append]; rfl
        have hlt : it (ap im) j i < im.length := P.it_lt j hi
        have hR : SqL K (upd H1 r (.lst ((pref (ap im) i (j + 1)).map nv))) r ((pref (ap im) i (j + 1)).map nv) := SqL.of upd_same
        have gl : atI ((pref (ap im) i (j + 1)).map nv) (-1) = some (nv (it (ap im) j i)) := by rw [eP]; exact atI_last _ _
        have gi : atI (im.map nv) ((it (ap im) j i : Nat) : Int) = some (nv (it (ap im) (j + 1) i)) := atI_nat (nv_get (ap_get hlt))
        refine ⟨_, rfl, _, rfl, 1, rfl, r, _, _, _, rfl, rfl, hR, gl, a, _, _, _, rfl, rfl, hA, gi, _, rfl, rfl, _, rfl, ?_⟩
        by_cases cb : it (ap im) (j + 1) i = i
        · -- the ring is whole
          have ej := (back_iff P hi hj).mp cb
          rw [cb, decide_eq_true rfl]
          refine iteF ?_
          have eR : pref (ap im) i (j + 1) = ring (ap im) im.length i := by rw [ej]; rfl
          rw [eR]
          -- seen = seen + ring
          refine ⟨_, rfl, _, rfl, x, r, _, _, rfl, rfl, by rw [upd_ne nrx]; exact hx, upd_same, ?_, fun x' nx' => ?_⟩
          · rw [List.length_map, List.length_map, ring_len]
            exact Nat.le_of_lt (small21 (by have : i * 1000 ≤ 1000 * 1000 := Nat.mul_le_mul_right _ (by omega); omega))
          rw [← List.map_append]
          have nro' : o ≠ x' := ne_of_none (H := upd H1 r _) (by rw [upd_ne nro]; exact ho) nx'
          have nrr' : r ≠ x' := ne_of_none (H := upd H1 r _) upd_same nx'
          have s5 : Same H (upd (upd H1 r (.lst ((ring (ap im) im.length i).map nv))) x' (.lst ((sn ++ ring (ap im) im.length i).map nv))) := (s4 _).trans (same_upd nx')
          have hro : r ∉ as := fun hm => by
            obtain ⟨z, hz⟩ := hg.know hm
            rw [hz] at nr
            cases nr
          have hxas : x' ∉ as := fun hm => by
            obtain ⟨z, hz⟩ := hg.know hm
            rw [upd_ne (fun e => hro (by rw [← e]; exact hm)), hz] at nx'
            cases nx'
          have hlen : (sn ++ ring (ap im) im.length i).length ≤ (i + 1) * 1000 := by rw [List.length_append, ring_len]; omega
          -- if len(ring) > 1
          refine ⟨_, rfl, r, _, rfl, .inl (SqL.of (by rw [upd_ne nrr']; exact upd_same)), _, _, rfl, rfl, _, rfl, ?_⟩
          by_cases ci : ap im i = i
          · refine decF (by rw [List.length_map, ring_len, (per_one P hi).mpr ci]; omega) ?_
            refine ⟨_, _, _, x', as, rfl, s5, upd_same, seen_more hsn, hlen, nro'.symm, (s4 _).free nx', by rw [upd_ne nro', upd_ne nro]; exact ho, ?_, hoa, hnd, hfr⟩
            rw [ringsTo_stay ci]
            exact (hg.upd hro).upd hxas
          · refine decT (by
              rw [List.length_map, ring_len]
              have : per (ap im) im.length i ≠ 1 := fun z => ci ((per_one P hi).mp z)
              omega) ?_
            have ho5 : (upd (upd H1 r (.lst ((ring (ap im) im.length i).map nv))) x' (.lst ((sn ++ ring (ap im) im.length i).map nv))) o = some (.lst (as.map V.ref)) := by rw [upd_ne nro', upd_ne nro]; exact ho
            refine ⟨_, rfl, .inl ⟨rfl, _, SqL.of ho5⟩, _, rfl, o, _, _, rfl, rfl, ho5, small64 (by rw [List.length_map, hg.len]; have := ringsTo_len (ap im) im.length i; omega), ?_⟩
            refine ⟨_, _, _, x', as ++ [r], rfl, mutS s5 no, by rw [upd_ne nro'.symm]; exact upd_same, seen_more hsn, hlen, nro'.symm, (s4 _).free nx', by rw [upd_same, List.map_append]; rfl, ?_, ?_, ?_, ?_⟩
            · rw [ringsTo_more l1 ci]
              refine Rg.snoc (((hg.upd hro).upd hxas).upd hoa) ?_
              rw [upd_ne nro.symm, upd_ne nrr']
              exact upd_same
            · rw [List.mem_append, not_or]
              exact ⟨hoa, fun h => nro (List.mem_singleton.mp h)⟩
            · exact nd_snoc hnd hro
            · intro b hb
              rcases List.mem_append.mp hb with h | h
              · exact hfr b h
              · rw [List.mem_singleton.mp h]; exact s3.free nr
        · have ej : j + 1 ≠ per (ap im) im.length i := fun z => cb ((back_iff P hi hj).mpr z)
          rw [decide_eq_false (fun z => cb (by have := V.int.inj z; omega))]
          refine iteT ⟨fun σ' H' => σ' = [some (.ref a), some (.ref o), some (.ref x), some (nv i), some (.ref r)] ∧ H' = upd H1 r (.lst ((pref (ap im) i (j + 1 + 1)).map nv)), fun σ' H' h => ⟨_, ?_, j + 1, by omega, rfl, h.1, h.2⟩, ?_⟩
          · omega
          refine ⟨_, rfl, .inl ⟨rfl, _, hR⟩, _, rfl, _, rfl, 1, rfl, r, _, _, _, rfl, rfl, hR, gl, a, _, _, _, rfl, rfl, hA, gi, r, _, _, rfl, rfl, upd_same, small64 (by rw [List.length_map, pref_len]; omega), rfl, ?_⟩
          rw [upd_upd, pref_succ (ap im) i (j + 1), List.map_append]
          rfl
    · rintro σ H1 ⟨v3, v4, sn, x, as, rfl, s3, hx, hsn, hsl, nxo, nx, ho, hg, hoa, hnd, hfr⟩
      exact ⟨_, rfl, q o as H1 s3 no hfr hoa hnd ho hg⟩
end
/-! ### dicts from places to places -/
def natKV (g : List (Nat × Nat)) : List (Key × V) := g.map fun p => (Sum.inl (p.1 : Int), nv p.2)
theorem natKV_append (a b : List (Nat × Nat)) : natKV (a ++ b) = natKV a ++ natKV b := List.map_append
theorem natKV_none : ∀ {g : List (Nat × Nat)} {x : Nat}, x ∉ g.map Prod.fst → valV (natKV g) (Sum.inl (x : Int)) = none
  | [], x, _ => rfl
  | (a, b) :: g, x, h => by
    have h1 : ¬ x = a := fun e => h (by rw [e]; exact List.mem_cons_self)
    have h2 : x ∉ g.map Prod.fst := fun e => h (List.mem_cons_of_mem _ e)
    show valV ((Sum.inl (a : Int), nv b) :: natKV g) _ = none
    rw [valV_neg (fun e => h1 (by have := Sum.inl.inj e; omega))]
    exact natKV_none h2
theorem natKV_some : ∀ {g : List (Nat × Nat)} {x y : Nat}, (g.map Prod.fst).Nodup → (x, y) ∈ g → valV (natKV g) (Sum.inl (x : Int)) = some (nv y)
  | [], x, y, _, h => by cases h
  | (a, b) :: g, x, y, hn, h => by
    have hn' : (a :: g.map Prod.fst).Nodup := hn
    obtain ⟨n1, n2⟩ := List.nodup_cons.mp hn'
    show valV ((Sum.inl (a : Int), nv b) :: natKV g) _ = _
    rcases List.mem_cons.mp h with e | e
    · have e1 : x = a := congrArg Prod.fst e
      have e2 : y = b := congrArg Prod.snd e
      rw [e1, e2, valV_pos rfl]
    · have hxa : ¬ a = x := fun q => n1 (by rw [q]; exact List.mem_map.mpr ⟨(x, y), e, rfl⟩)
      rw [valV_neg (fun q => hxa (by have := Sum.inl.inj q; omega))]
      exact natKV_some n2 e
theorem natKV_len (g : List (Nat × Nat)) : (natKV g).length = g.length := List.length_map _
/-- what a dict of a map's pairs tells -/
theorem graph_get {f : Nat → Nat} {l : List Nat} (hn : l.Nodup) (x : Nat) : valV (natKV (graph f l)) (Sum.inl (x : Int)) = if x ∈ l then some (nv (f x)) else none := by
  by_cases c : x ∈ l
  · rw [if_pos c]
    exact natKV_some (by rw [graph_fst]; exact hn) (List.mem_map.mpr ⟨x, c, rfl⟩)
  · rw [if_neg c]
    exact natKV_none (by rw [graph_fst]; exact c)
theorem cutV_from1 (xs : List V) : cutV xs (some 1) none = xs.drop 1 := by
  unfold cutV
  rw [show HT.sIx xs.length 0 (some 1) = min 1 xs.length from HT.sIx_nat xs.length 0 1, HT.sIx_none]
  cases xs with
  | nil => rfl
  | cons x r =>
    rw [show min 1 (x :: r).length = 1 by rw [List.length_cons]; omega]
    show (List.take ((x :: r).length - 1) r) = r
    rw [List.length_cons, Nat.add_sub_cancel]
    exact List.take_length
theorem cutV_to1 (xs : List V) : cutV xs none (some 1) = xs.take 1 := by
  unfold cutV
  rw [show HT.sIx xs.length xs.length (some 1) = min 1 xs.length from HT.sIx_nat xs.length xs.length 1, HT.sIx_none, List.drop_zero, Nat.sub_zero]
  cases xs with
  | nil => rfl
  | cons x r => rw [show min 1 (x :: r).length = 1 by rw [List.length_cons]; omega]
theorem rot_nv (r : List Nat) : (rot r).map nv = (r.map nv).drop 1 ++ (r.map nv).take 1 := by
  unfold rot
  rw [List.map_append, List.map_drop, List.map_take]
section
variable {P : Program} {w : World} {K : PySem.W.Frag} {mg : Str → Option Value} {base : Heap}
/-- a def with defaults that lets nothing out -/
theorem okD {x qual : Str} {params : Arguments} {body : List Stmt} {scope : Scope} {dvs : List V} {kws : List (Str × V)} {f : Addr} {fd : FuncData} {N ps : List Str} {k : Nat} {sp : Sp} (F : FunD K x qual params body scope dvs kws f fd) (S : FnScope N ps scope) (len : ∀ vs H Q E, sp vs H Q E → vs.length = ps.length)
    (hb : ∀ (cdv : Value) (A : Around) (outer : List Env) (s : Shared) (H : Hp) (vs : List V) (Q : VK) (E : XK), Room k (A.deeper (envOfC qual scope s.heap.objs.size f cdv)) → sp vs H Q E →
      ∃ t, PSs (cxOf CX0 P w K mg base N qual scope f cdv A outer s H E).nox body t ∧ t { nx := fun _ H' => Q .non H', rt := Q } (start N vs) H) : FnOk P w K mg base CX0 (k + 1) f fd ps sp :=
  F.ok S len fun cdv A outer s H vs Q E hr h => by
    obtain ⟨t, p, q⟩ := hb cdv A outer s H vs Q E hr h
    exact ⟨t, p.nox, q⟩
/-! ### moves_of -/
abbrev s_moves_of : Stmt := top 13
theorem sc_moves_of : FnScope ["rings", "size", "moves", "index", "ring", "place", "image"] ["rings", "size"] (defScope s_moves_of) := ⟨rfl, rfl, rfl, by decide +kernel, rfl, by decide +kernel, by decide +kernel⟩

/-- the size: None, or a number above all places -/
def SizeV (z : V) (rs : List (List Nat)) : Prop := z = .non ∨ ∃ n : Nat, z = nv n ∧ ∀ x ∈ rs.flatten, x < n
def spMoves (K : PySem.W.Frag) : Sp := fun vs H Q _ => ∃ (a : Addr) (z : V) (as : List Addr) (rs : List (List Nat)), vs = [.ref a, z] ∧ SqL K H a (as.map V.ref) ∧ Rg H as rs ∧ SizeV z rs ∧ (∀ r ∈ rs, r ≠ []) ∧ rs.flatten.Nodup ∧ rs.flatten.length ≤ 1000 ∧
  ∀ (d : Addr) (H' : Hp), Same H H' → H d = none → H' d = some (.dK (natKV (pairs rs))) → Q (.ref d) H'
theorem ok_moves_of {f : Addr} {fd : FuncData} (F : FunD K "moves_of" "moves_of" (defArgs s_moves_of) (defBody s_moves_of) (defScope s_moves_of) [.non] [] f fd) (T : Blt mg) : FnOk P w K mg base CX0 1 f fd ["rings", "size"] (spMoves K) := by
  refine okD F sc_moves_of (fun vs H Q E h => ?_) (fun cdv A outer s H vs Q E hr h => ?_)
  · obtain ⟨a, z, as, rs, rfl, _⟩ := h; rfl
  · obtain ⟨a, z, as, rs, rfl, hS, hg, hz, hne, hnd, hlen, q⟩ := h
    have hu := hu_of hr
    refine ⟨_, (pss_cons (ps_set (i := 2) sc_moves_of.nd rfl (.inl rfl) pe_dnewK)
    (pss_cons (ps_for PassesOwn.never rfl (pi_enum (by rfl) T.enumerate (pa_cons (pv 0) pa_nil)) (pg_tup rfl (pgs_cons (pg_name (i := 3) sc_moves_of.nd rfl (.inl rfl)) (pgs_cons (pg_name (i := 4) sc_moves_of.nd rfl (.inl rfl)) pgs_nil))) (pss_cons (ps_if (pt_not (pt_truth (pv 4) (by intro _; rfl))) pss_never pss_nil)
    (pss_one (ps_for PassesOwn.never rfl (pi_zip (by rfl) T.zip (pa_cons (pv 4) (pa_cons (pe_op op_cat (pe_slice sl_list (pv 4) (po_some pe_int) po_none) (pe_slice sl_list (pv 4) po_none (po_some pe_int))) pa_nil))) (pg_tup rfl (pgs_cons (pg_name (i := 5) sc_moves_of.nd rfl (.inl rfl)) (pgs_cons (pg_name (i := 6) sc_moves_of.nd rfl (.inl rfl)) pgs_nil))) (pss_cons (ps_if (PW.pt (pw_or (pt_cmpR op_lt (pv 5) pe_int (nomark _)) (pw_or (pt_cmp (pc_din hu (pv 5) (pv 2))) (pw_or1 (PW.pt (pw_and (pt_cmpR op_notN (pv 1) pe_non (nomark _)) (pw_and1 (pt_cmpR op_ge (pv 5) (pv 1) (nomark _))))))))) pss_never pss_nil)
    (pss_one (ps_dput hu (pv 2) (pv 5) (pv 6) rfl)))))))
    (pss_one (ps_ret (pv 2))))), ?_⟩
    intro d nd
    have s1 : Same H (upd H d (.dK [])) := same_upd nd
    refine ⟨.ref a, rfl, a, _, rfl, s1.seq hS, ?_⟩
    refine for_it (walk_enum (K := K) (a := a) (xs := as.map V.ref)) (fun i σ H1 => ∃ v3 v4 v5 v6 : Option V, σ = [some (.ref a), some z, some (.ref d), v3, v4, v5, v6] ∧ Same H H1 ∧ H1 d = some (.dK (natKV (pairs (rs.take i)))))
      ⟨none, none, none, none, rfl, s1, upd_same⟩ (fun i σ H1 _ ⟨_, _, _, _, _, s2, _⟩ => s2.seq hS) ?_ ?_
    · rintro i y σ H1 H2 hi ⟨v3, v4, v5, v6, rfl, s2, hd⟩ ⟨T1, x1, x2, rfl, nT, rfl, f1, f2⟩
      have e1 : x1 = V.int (i : Nat) := (Option.some.inj f1).symm
      subst e1
      rw [List.length_map] at hi
      obtain ⟨b, hb⟩ : ∃ b, as[i]? = some b := ⟨as[i], List.getElem?_eq_getElem hi⟩
      have e2 : x2 = V.ref b := by
        have f3 : (as.map V.ref)[i]? = some x2 := f2
        rw [List.getElem?_map, hb] at f3
        exact (Option.some.inj f3).symm
      subst e2
      have hir : i < rs.length := by rw [← hg.len]; exact hi
      obtain ⟨r, hr'⟩ : ∃ r, rs[i]? = some r := ⟨rs[i], List.getElem?_eq_getElem hir⟩
      have hbr := hg.at_ i b r hb hr'
      have hr0 : r ≠ [] := hne r (List.mem_of_getElem? hr')
      have dT : d ≠ T1 := ne_of_none hd nT
      have s3 : Same H (upd H1 T1 (.tup [V.int (i : Nat), V.ref b])) := mutS s2 (s2.free nT)
      -- index, ring = the pair
      refine ⟨T1, _, rfl, SqT.of upd_same, rfl, _, _, rfl, _, _, rfl, rfl, ?_⟩
      -- if not ring
      have hB : SqL K (upd H1 T1 (.tup [V.int (i : Nat), V.ref b])) b (r.map nv) := SqL.of (s3 _ _ hbr)
      refine ⟨_, rfl, true, .inl ⟨_, hB, by cases r with | nil => exact absurd rfl hr0 | cons x r => rfl⟩, iteF ?_⟩
      -- zip(ring, ring[1:] + ring[:1])
      refine ⟨_, rfl, _, rfl, 1, rfl, b, _, rfl, hB, fun p1 np1 => ⟨_, rfl, 1, rfl, b, _, rfl, (same_upd np1).seq hB, fun p2 np2 => ?_⟩⟩
      rw [cutV_from1, cutV_to1]
      rw [cutV_from1] at np2
      have n12 : p1 ≠ p2 := ne_of_none (upd_same (H := upd H1 T1 _)) np2
      refine ⟨p1, p2, _, _, rfl, rfl, by rw [upd_ne n12]; exact upd_same, upd_same, Nat.le_trans (show _ ≤ 2000 from ?_) (by decide), fun p3 np3 => ?_⟩
      · rw [List.length_drop, List.length_take, List.length_map]
        have : r.length ≤ rs.flatten.length := by
          have h1 : r.length = (nxt r).length := (nxt_len r).symm
          have h2 := pairs_snoc hr'
          have h3 := pairs_take_len rs (i + 1)
          rw [h2, List.length_append] at h3
          omega
        omega
      rw [← rot_nv]
      have sA : Same (upd H1 T1 (.tup [V.int (i : Nat), V.ref b])) (upd (upd (upd (upd H1 T1 (.tup [V.int (i : Nat), V.ref b])) p1 (.lst ((r.map nv).drop 1))) p2 (.lst ((r.map nv).take 1))) p3 (.lst ((rot r).map nv))) :=
        ((same_upd np1).trans (same_upd np2)).trans (same_upd np3)
      refine ⟨b, p3, _, _, rfl, sA.seq hB, SqL.of upd_same, ?_⟩
      have dp1 : d ≠ p1 := ne_of_none (H := upd H1 T1 _) (by rw [upd_ne dT]; exact hd) np1
      have dp2 : d ≠ p2 := ne_of_none (H := upd (upd H1 T1 _) p1 _) (by rw [upd_ne dp1, upd_ne dT]; exact hd) np2
      have dp3 : d ≠ p3 := ne_of_none (H := upd (upd (upd H1 T1 _) p1 _) p2 _) (by rw [upd_ne dp2, upd_ne dp1, upd_ne dT]; exact hd) np3
      have n3b : p3 ≠ b := fun e => by
        have h1 := (same_upd (o := .lst ((r.map nv).drop 1)) np1).trans (same_upd (o := .lst ((r.map nv).take 1)) np2)
        have h2 := h1 b _ (s3 _ _ hbr)
        rw [e, h2] at np3
        cases np3
      refine for_it (walk_zip (K := K) (a := b) (b := p3) (xs := r.map nv) (ys := (rot r).map nv) (n := r.length) (by rw [List.length_map, List.length_map, rot_len]; omega))
        (fun j σ H3 => ∃ v5 v6 : Option V, σ = [some (.ref a), some z, some (.ref d), some (V.int (i : Nat)), some (.ref b), v5, v6] ∧ Same H H3 ∧ H3 p3 = some (.lst ((rot r).map nv)) ∧ H3 d = some (.dK (natKV (pairs (rs.take i) ++ (nxt r).take j))))
        ⟨v5, v6, rfl, s3.trans sA, upd_same, by rw [upd_ne dp3, upd_ne dp2, upd_ne dp1, upd_ne dT, List.take_zero, List.append_nil]; exact hd⟩ (fun j σ H3 _ ⟨_, _, _, s4, h4, _⟩ => ⟨SqL.of (s4 _ _ hbr), SqL.of h4⟩) ?_ ?_
      · rintro j y σ H3 H4 hj ⟨v5, v6, rfl, s4, h4, h5⟩ ⟨T2, x1, x2, rfl, nT2, rfl, g1, g2⟩
        obtain ⟨x, hx, rfl⟩ := of_nv_get g1
        obtain ⟨y, hy, rfl⟩ := of_nv_get g2
        have dT2 : d ≠ T2 := ne_of_none h5 nT2
        have h5' : (upd H3 T2 (.tup [nv x, nv y])) d = some (.dK (natKV (pairs (rs.take i) ++ (nxt r).take j))) := by rw [upd_ne dT2]; exact h5
        have hno : valV (natKV (pairs (rs.take i) ++ (nxt r).take j)) (Sum.inl (x : Int)) = none := natKV_none (not_before hnd hr' hx)
        refine ⟨T2, _, rfl, SqT.of upd_same, rfl, _, _, rfl, _, _, rfl, rfl, ?_⟩
        -- the test
        refine ⟨_, rfl, _, _, rfl, rfl, _, rfl, decF (by omega) ?_⟩
        refine ⟨_, rfl, _, rfl, d, none, rfl, .inl ⟨_, _, .of h5', rfl, hno.symm⟩, _, rfl, iteF ?_⟩
        have fin : ∀ D : Ends, D.nx = (fun σ H' => ∃ v5 v6 : Option V, σ = [some (.ref a), some z, some (.ref d), some (V.int (i : Nat)), some (.ref b), v5, v6] ∧ Same H H' ∧ H' p3 = some (.lst ((rot r).map nv)) ∧ H' d = some (.dK (natKV (pairs (rs.take i) ++ (nxt r).take (j + 1))))) →
            sDPut (tVar 2) (tVar 5) (tVar 6) D [some (.ref a), some z, some (.ref d), some (V.int (i : Nat)), some (.ref b), some (nv x), some (nv y)] (upd H3 T2 (.tup [nv x, nv y])) := fun D hD => by
          refine ⟨_, rfl, _, rfl, _, rfl, d, _, rfl, DPut.k (k := Sum.inl (x : Int)) h5' ?_, ?_⟩
          · rw [natKV_len, List.length_append, List.length_take]
            refine small64 ?_
            have h3 := pairs_take_len rs (i + 1)
            rw [pairs_snoc hr', List.length_append] at h3
            omega
          · rw [hD]
            have p3T : p3 ≠ T2 := ne_of_none h4 nT2
            have dp3' : p3 ≠ d := dp3.symm
            refine ⟨_, _, rfl, mutS (mutS s4 (s4.free nT2)) nd, by rw [upd_ne dp3', upd_ne p3T]; exact h4, ?_⟩
            rw [upd_same, putK_new _ hno, take_snoc (nxt_get hx hy), ← List.append_assoc, natKV_append (_ ++ _)]
            rfl
        rcases hz with rfl | ⟨n, rfl, hn⟩
        · exact ⟨_, rfl, rfl, _, rfl, iteF (iteF (fin _ rfl))⟩
        · have hxn : x < n := hn x (List.mem_flatten.mpr ⟨r, List.mem_of_getElem? hr', List.mem_of_getElem? hx⟩)
          refine ⟨_, rfl, rfl, _, rfl, iteT ⟨_, rfl, _, rfl, _, _, rfl, rfl, _, rfl, decF (by omega) (fin _ rfl)⟩⟩
      · rintro σ H3 ⟨v5, v6, rfl, s4, h4, h5⟩
        refine ⟨_, _, v5, v6, rfl, s4, ?_⟩
        have et : (nxt r).take r.length = nxt r := List.take_of_length_le (by rw [nxt_len]; exact Nat.le_refl _)
        rw [h5, pairs_snoc hr', et]
    · rintro σ H1 ⟨v3, v4, v5, v6, rfl, s2, hd⟩
      refine ⟨_, rfl, q d H1 s2 nd ?_⟩
      rw [hd, List.length_map, hg.len, List.take_length]
end
section
variable {P : Program} {w : World} {K : PySem.W.Frag} {mg : Str → Option Value} {base : Heap}
/-! ### rings_of -/
abbrev s_rings_of : Stmt := top 14
theorem sc_rings_of : FnScope ["moves", "rings", "seen", "first", "ring", "place"] ["moves"] (defScope s_rings_of) := ⟨rfl, rfl, rfl, by decide +kernel, rfl, by decide +kernel, by decide +kernel⟩

/-- the places xs, each once, below n; f leads them, and stays elsewhere -/
structure Moves (f : Nat → Nat) (n : Nat) (ks : List Nat) : Prop where
  perm : PermF f n
  nd : ks.Nodup
  lt : ∀ k ∈ ks, k < n
  all : ∀ x, x < n → f x ≠ x → x ∈ ks
  cl : ∀ k ∈ ks, f k ∈ ks
  few : ks.length < 64
  small : ks.length * n ≤ 64000
def spRingsOf : Sp := fun vs H Q _ => ∃ (d : Addr) (f : Nat → Nat) (n : Nat) (ks : List Nat), vs = [.ref d] ∧ H d = some (.dK (natKV (graph f ks))) ∧ Moves f n ks ∧
  ∀ (o : Addr) (as : List Addr) (H' : Hp), Same H H' → H o = none → (∀ a ∈ as, H a = none) → o ∉ as → as.Nodup → H' o = some (.lst (as.map V.ref)) → Rg H' as (rings f n) → Q (.ref o) H'
theorem nodup_sub {l m : List Nat} (h : l.Nodup) (s : ∀ x ∈ l, x ∈ m) : l.length ≤ m.length := by
  induction l generalizing m with
  | nil => exact Nat.zero_le _
  | cons x l ih =>
    have nx := List.nodup_cons.mp h
    have hx := s x List.mem_cons_self
    have h1 := ih nx.2 (m := m.erase x) fun y hy => (List.mem_erase_of_ne (fun e => nx.1 (by rw [← e]; exact hy))).mpr (s y (List.mem_cons_of_mem _ hy))
    rw [List.length_erase_of_mem hx] at h1
    have h2 : 0 < m.length := List.length_pos_of_mem hx
    rw [List.length_cons]
    omega
theorem it_in {f : Nat → Nat} {n : Nat} {ks : List Nat} (M : Moves f n ks) {y : Nat} (h : y ∈ ks) : ∀ j, it f j y ∈ ks
  | 0 => h
  | j + 1 => M.cl _ (it_in M h j)
theorem ok_rings_of {f : Addr} {fd : FuncData} (F : Fun K "rings_of" "rings_of" s_rings_of f fd) (T : Blt mg) : FnOk P w K mg base CX0 1 f fd ["moves"] spRingsOf := by
  refine F.ok sc_rings_of (fun vs H Q E h => ?_) (fun cdv A outer s H vs Q E hr h => ?_)
  · obtain ⟨d, f, n, ks, rfl, _⟩ := h; rfl
  · obtain ⟨d, f, n, ks, rfl, hd, M, q⟩ := h
    have PF := M.perm
    have hu := hu_of hr
    have get : ∀ {H' : Hp}, Same H H' → ∀ y, y ∈ ks → DGet H' d (V.int (y : Int)) (some (nv (f y))) := fun s y hy =>
      .inl ⟨_, Sum.inl (y : Int), .of (s _ _ hd), rfl, by rw [graph_get M.nd, if_pos hy]⟩
    refine ⟨_, (pss_cons (ps_set (i := 1) sc_rings_of.nd rfl (.inl rfl) (pe_lst pa_nil))
    (pss_cons (ps_set (i := 2) sc_rings_of.nd rfl (.inl rfl) (pe_callTy0 cr_set0 (by rfl) T.set (by decide +kernel)))
    (pss_cons (ps_for PassesOwn.never rfl (pi_list (pe_callB (call_sortedDI rfl) (by rfl) T.sorted (by decide +kernel) (pa_cons (pv 0) pa_nil))) (pg_name (i := 3) sc_rings_of.nd rfl (.inl rfl)) (pss_cons (ps_if (PW.pt (pw_or (pt_cmpR or_sin (pv 3) (pv 2) rfl) (pw_or1 (pt_cmpR op_eq (pe_dget hu (pv 0) (pv 3) (fun _ _ => rfl)) (pv 3) (nomark _))))) (pss_one ps_continue) pss_nil)
    (pss_cons (ps_set (i := 4) sc_rings_of.nd rfl (.inl rfl) (pe_lst (pa_cons (pv 3) pa_nil)))
    (pss_cons (ps_set (i := 5) sc_rings_of.nd rfl (.inl rfl) (pe_dget hu (pv 0) (pv 3) (fun _ _ => rfl)))
    (pss_cons (ps_while PassesOwn.never (pt_cmpR op_ne (pv 5) (pv 3) (nomark _)) (pss_cons (ps_expr (pe_bm PySem.F.plainAttrs_list PySem.F.slot_list_append PySem.F.type_list_append mt_append (pv 4) (pa_cons (pv 5) pa_nil)))
    (pss_cons (ps_expr (pe_sadd (pv 2) (pa_cons (pv 5) pa_nil)))
    (pss_one (ps_set (i := 5) sc_rings_of.nd rfl (.inl rfl) (pe_dget hu (pv 0) (pv 5) (fun _ _ => rfl)))))))
    (pss_one (ps_expr (pe_bm PySem.F.plainAttrs_list PySem.F.slot_list_append PySem.F.type_list_append mt_append (pv 1) (pa_cons (pv 4) pa_nil)))))))))
    (pss_one (ps_ret (pv 1)))))), ?_⟩
    -- rings = []; seen = set()
    refine ⟨Nat.zero_le _, fun o no => ⟨rfl, fun e ne => ?_⟩⟩
    have s1 : Same H (upd H o (.lst [])) := same_upd no
    have s2 : Same H (upd (upd H o (.lst [])) e (SetO w e (fun _ => false) 0)) := s1.trans (same_upd ne)
    have noe : o ≠ e := ne_of_none (H := upd H o (.lst [])) upd_same ne
    -- sorted(moves)
    refine ⟨_, rfl, d, _, ks.map fun (k : Nat) => (k : Int), rfl, .of (s2 _ _ hd), ?_, by rw [List.length_map]; exact M.few, fun ys p hp hs np => ?_⟩
    · unfold natKV graph
      rw [List.map_map, List.map_map, List.map_map]
      rfl
    obtain ⟨zs, rfl, zp, zs1⟩ := perm_nat hp hs M.nd
    have zlt : ∀ y ∈ zs, y < n := fun y hy => M.lt y (zp.mem_iff.mp hy)
    have zall : ∀ x, x < n → f x ≠ x → x ∈ zs := fun x h1 h2 => zp.mem_iff.mpr (M.all x h1 h2)
    have zlen : zs.length = ks.length := zp.length_eq
    have em : (zs.map fun (k : Nat) => (k : Int)).map V.int = zs.map nv := by rw [List.map_map]; rfl
    rw [em] at *
    have nop : o ≠ p := ne_of_none (H := upd (upd H o (.lst [])) e _) (by rw [upd_ne noe]; exact upd_same) np
    have nep : e ≠ p := ne_of_none (H := upd (upd H o (.lst [])) e _) upd_same np
    have ne' : H e = none := s1.free ne
    have np' : H p = none := s2.free np
    refine ⟨p, rfl, ⟨_, SqL.of upd_same⟩, for_list (K := K) (a := p) (xs := zs.map nv) (fun i σ H1 => ∃ (v3 v4 v5 : Option V) (S : Int → Bool) (c : Nat) (as : List Addr), σ = [some (.ref d), some (.ref o), some (.ref e), v3, v4, v5] ∧ Same H H1 ∧
        H1 p = some (.lst (zs.map nv)) ∧ H1 e = some (SetO w e S c) ∧ (∀ x : Nat, S (x : Int) = true ↔ Marked f n (zs.take i) x) ∧ c ≤ i * ks.length ∧
        H1 o = some (.lst (as.map V.ref)) ∧ Rg H1 as (ringsIn f n (zs.take i)) ∧ o ∉ as ∧ as.Nodup ∧ (∀ a ∈ as, H a = none))
      ⟨none, none, none, fun _ => false, 0, [], rfl, s2.trans (same_upd np), upd_same, by rw [upd_ne nep]; exact upd_same, fun x => ⟨fun h => by simp at h, fun ⟨q, h, _⟩ => by simp at h⟩, Nat.zero_le _, by rw [upd_ne nop, upd_ne noe, upd_same]; rfl, Rg.nil, by simp, by simp, by simp⟩
      (fun i σ H1 _ ⟨_, _, _, _, _, _, _, _, h, _⟩ => SqL.of h) ?_ ?_⟩
    · rintro i yy σ H1 hi ⟨v3, v4, v5, S, c, as, rfl, s3, h1, h2, hS, hc, ho, hg, hoa, hnd, hfr⟩
      obtain ⟨y, hy, rfl⟩ := of_nv_get hi
      have hyz : y ∈ zs := List.mem_of_getElem? hy
      have hyk : y ∈ ks := zp.mem_iff.mp hyz
      have hyn : y < n := zlt y hyz
      have hil : i < zs.length := (List.getElem?_eq_some_iff.mp hy).1
      have ml := marked_iff PF zs1 zlt zall hy
      -- first in seen
      refine ⟨_, rfl, _, rfl, (y : Int), e, S, c, rfl, rfl, h2, _, rfl, ?_⟩
      have stay : headB f n y = false → ∃ (u3 u4 u5 : Option V) (S : Int → Bool) (c : Nat) (as : List Addr), ([some (.ref d), some (.ref o), some (.ref e), some (nv y), v4, v5] : L2.St) = [some (.ref d), some (.ref o), some (.ref e), u3, u4, u5] ∧ Same H H1 ∧
          H1 p = some (.lst (zs.map nv)) ∧ H1 e = some (SetO w e S c) ∧ (∀ x : Nat, S (x : Int) = true ↔ Marked f n (zs.take (i + 1)) x) ∧ c ≤ (i + 1) * ks.length ∧
          H1 o = some (.lst (as.map V.ref)) ∧ Rg H1 as (ringsIn f n (zs.take (i + 1))) ∧ o ∉ as ∧ as.Nodup ∧ (∀ a ∈ as, H a = none) := fun hb =>
        ⟨_, v4, v5, S, c, as, rfl, s3, h1, h2, fun x => (hS x).trans (marked_stay hy hb x).symm, by rw [Nat.succ_mul]; omega, ho, by rw [ringsIn_stay hy hb]; exact hg, hoa, hnd, hfr⟩
      by_cases cs : S (y : Int) = true
      · rw [cs]
        refine iteT (iteT ?_)
        have l0 := ml.mp ((hS y).mp cs)
        obtain ⟨w3, w4, w5, S1, c1, as1, q1, q2⟩ := stay (by unfold headB; rw [l0]; rfl)
        exact ⟨w3, w4, w5, S1, c1, as1, q1, q2⟩
      · have cs' : S (y : Int) = false := by simpa using cs
        rw [cs']
        refine iteF ?_
        have l1 : lead f n y = true := by
          cases z : lead f n y with
          | true => rfl
          | false => exact absurd ((hS y).mpr (ml.mpr z)) cs
        refine ⟨_, rfl, _, rfl, d, _, rfl, get s3 y hyk, _, rfl, rfl, _, rfl, ?_⟩
        by_cases cf : f y = y
        · refine decT (by rw [cf]) ?_
          obtain ⟨w3, w4, w5, S1, c1, as1, q1, q2⟩ := stay (by unfold headB; rw [cf]; simp)
          exact ⟨w3, w4, w5, S1, c1, as1, q1, q2⟩
        refine decF (fun z => cf (by have := V.int.inj z; omega)) ?_
        have hb : headB f n y = true := headB_iff.mpr ⟨l1, cf⟩
        obtain ⟨p0, pe, pl, _⟩ := per_spec PF hyn
        have p1 : per f n y ≠ 1 := fun z => cf ((per_one PF hyn).mp z)
        -- ring = [first]; place = moves[first]
        refine ⟨_, rfl, by show 1 ≤ sizeLine; decide, fun r nr => ?_⟩
        have nro : o ≠ r := ne_of_none ho nr
        have nre : e ≠ r := ne_of_none h2 nr
        have nrp : p ≠ r := ne_of_none h1 nr
        have hrn : H r = none := s3.free nr
        have hra : r ∉ as := fun hm => by
          obtain ⟨z, hz⟩ := hg.know hm
          rw [hz] at nr
          cases nr
        have hea : e ∉ as := fun hm => by
          obtain ⟨z, hz⟩ := hg.know hm
          rw [hz] at h2
          cases h2
        have s4 : Same H (upd H1 r (.lst [nv y])) := mutS s3 hrn
        refine ⟨_, rfl, _, rfl, d, _, rfl, get s4 y hyk, ?_⟩
        -- while place != first
        have few := M.few
        have bnd : (i + 1) * ks.length ≤ 3969 := Nat.le_trans (Nat.mul_le_mul (show i + 1 ≤ 63 by omega) (show ks.length ≤ 63 by omega)) (by decide)
        have pk : per f n y ≤ ks.length := by
          rw [← ring_len f n y]
          exact nodup_sub (ring_nodup PF hyn) fun x hx => by
            obtain ⟨k, e⟩ := (mem_ring PF hyn).mp hx
            rw [← e]
            exact it_in M hyk k
        refine ⟨fun m σ H2 => ∃ (j : Nat) (S' : Int → Bool) (c' : Nat), j < per f n y ∧ m = per f n y - (j + 1) ∧ σ = [some (.ref d), some (.ref o), some (.ref e), some (nv y), some (.ref r), some (nv (it f (j + 1) y))] ∧ Same H H2 ∧
            H2 p = some (.lst (zs.map nv)) ∧ H2 e = some (SetO w e S' c') ∧ (∀ x : Nat, S' (x : Int) = true ↔ (S (x : Int) = true ∨ ∃ k, 1 ≤ k ∧ k < j + 1 ∧ x = it f k y)) ∧ c' ≤ i * ks.length + j ∧
            H2 r = some (.lst ((pref f y (j + 1)).map nv)) ∧ H2 o = some (.lst (as.map V.ref)) ∧ Rg H2 as (ringsIn f n (zs.take i)), ⟨_, 0, S, c, p0, rfl, rfl, s4, by rw [upd_ne nrp]; exact h1, by rw [upd_ne nre]; exact h2, fun x => ⟨fun h => .inl h, fun h => h.elim id fun ⟨k, k1, k2, _⟩ => by omega⟩, hc, upd_same, by rw [upd_ne nro]; exact ho, hg.upd hra⟩, ?_⟩
        rintro m σ H2 ⟨j, S', c', hj, rfl, rfl, t3, t1, t2, tS, tc, tr, to, tg⟩
        have hlt : it f j y < n := PF.it_lt j hyn
        refine ⟨_, rfl, _, rfl, rfl, _, rfl, ?_⟩
        by_cases cb : it f (j + 1) y = y
        · have ej := (back_iff PF hyn hj).mp cb
          rw [cb, decide_eq_true rfl]
          refine iteF ?_
          have eR : pref f y (j + 1) = ring f n y := by rw [ej]; rfl
          rw [eR] at tr
          -- rings.append(ring)
          refine ⟨_, rfl, .inl ⟨rfl, _, SqL.of to⟩, _, rfl, o, _, _, rfl, rfl, to, small64 (by rw [List.length_map, tg.len]; have := ringsIn_len f n (zs.take i); rw [List.length_take] at this; have := M.few; omega), ?_⟩
          have nop' : p ≠ o := nop.symm
          have noe' : e ≠ o := noe.symm
          refine ⟨_, _, _, S', c', as ++ [r], rfl, mutS t3 no, by rw [upd_ne nop']; exact t1, by rw [upd_ne noe']; exact t2, fun x => ?_, ?_, by rw [upd_same, List.map_append]; rfl, ?_, ?_, nd_snoc hnd hra, ?_⟩
          · rw [tS x, hS x, marked_more hy hb x, ring_tail PF hyn, ← ej]
          · rw [Nat.succ_mul]; omega
          · rw [ringsIn_more hy hb]
            exact (tg.upd hoa).snoc (by rw [upd_ne nro.symm]; exact tr)
          · rw [List.mem_append, not_or]
            exact ⟨hoa, fun h => nro (List.mem_singleton.mp h)⟩
          · intro b hb'
            rcases List.mem_append.mp hb' with h | h
            · exact hfr b h
            · rw [List.mem_singleton.mp h]; exact hrn
        · have ej : j + 1 ≠ per f n y := fun z => cb ((back_iff PF hyn hj).mpr z)
          have hk1 : it f (j + 1) y ∈ ks := it_in M hyk (j + 1)
          have hin : i * ks.length + ks.length ≤ 3969 := by rw [← Nat.succ_mul]; exact bnd
          rw [decide_eq_false (fun z => cb (by have := V.int.inj z; omega))]
          refine iteT ⟨fun σ' H' => ∃ (S' : Int → Bool) (c' : Nat), σ' = [some (.ref d), some (.ref o), some (.ref e), some (nv y), some (.ref r), some (nv (it f (j + 1 + 1) y))] ∧ Same H H' ∧
            H' p = some (.lst (zs.map nv)) ∧ H' e = some (SetO w e S' c') ∧ (∀ x : Nat, S' (x : Int) = true ↔ (S (x : Int) = true ∨ ∃ k, 1 ≤ k ∧ k < j + 1 + 1 ∧ x = it f k y)) ∧ c' ≤ i * ks.length + (j + 1) ∧
            H' r = some (.lst ((pref f y (j + 1 + 1)).map nv)) ∧ H' o = some (.lst (as.map V.ref)) ∧ Rg H' as (ringsIn f n (zs.take i)), fun σ' H' ⟨S2, c2, h⟩ => ⟨per f n y - (j + 1 + 1), by omega, j + 1, S2, c2, by omega, rfl, h⟩, ?_⟩
          -- ring.append(place); seen.add(place); place = moves[place]
          refine ⟨_, rfl, .inl ⟨rfl, _, SqL.of tr⟩, _, rfl, r, _, _, rfl, rfl, tr, small64 (by rw [List.length_map, pref_len]; omega), ?_⟩
          have u2 : (upd H2 r (.lst ((pref f y (j + 1)).map nv ++ [nv (it f (j + 1) y)]))) e = some (SetO w e S' c') := by rw [upd_ne nre]; exact t2
          refine ⟨_, rfl, ⟨e, S', c', rfl, u2⟩, _, rfl, e, _, S', c', rfl, rfl, u2, by show c' + 1 < 4096; omega, ?_⟩
          have s5 : Same H (upd (upd H2 r (.lst ((pref f y (j + 1)).map nv ++ [nv (it f (j + 1) y)]))) e (SetO w e (fun k => S' k || decide (k = ((it f (j + 1) y : Nat) : Int))) (if S' ((it f (j + 1) y : Nat) : Int) = true then c' else c' + 1))) := mutS (mutS t3 hrn) ne'
          refine ⟨_, rfl, _, rfl, d, _, rfl, get s5 _ hk1, ?_⟩
          refine ⟨_, _, rfl, s5, by rw [upd_ne nep.symm, upd_ne nrp]; exact t1, upd_same, fun x => ?_, by split <;> omega, by rw [upd_ne nre.symm, upd_same, pref_succ f y (j + 1), List.map_append]; rfl, by rw [upd_ne noe, upd_ne nro]; exact to, (tg.upd hra).upd hea⟩
          rw [Bool.or_eq_true, decide_eq_true_eq, tS x]
          constructor
          · rintro ((h | ⟨k, k1, k2, e1⟩) | h)
            · exact .inl h
            · exact .inr ⟨k, k1, by omega, e1⟩
            · exact .inr ⟨j + 1, by omega, by omega, by omega⟩
          · rintro (h | ⟨k, k1, k2, e1⟩)
            · exact .inl (.inl h)
            · by_cases ck : k = j + 1
              · subst ck; exact .inr (by rw [e1])
              · exact .inl (.inr ⟨k, k1, by omega, e1⟩)
    · rintro σ H1 ⟨v3, v4, v5, S, c, as, rfl, s3, h1, h2, hS, hc, ho, hg, hoa, hnd, hfr⟩
      rw [List.length_map, List.take_length, ringsIn_all zs1 zlt zall] at hg
      exact ⟨_, rfl, q o as H1 s3 no hfr hoa hnd ho hg⟩
end
/-! ### wires -/
/-- a wire's two attributes -/
def wF (n : Nat) (l : Addr) : List (Str × V) := [("size", nv n), ("_images", .ref l)]
theorem lk1 {k : Str} {v : V} {r : List (Str × V)} : List.lookup k ((k, v) :: r) = some v := by simp only [List.lookup, beq_self_eq_true k]
theorem lk2 {k g : Str} {v : V} {r : List (Str × V)} (h : (k == g) = false) : List.lookup k ((g, v) :: r) = List.lookup k r := by simp only [List.lookup, h]
theorem wF_size (n : Nat) (l : Addr) : (wF n l).lookup ("size" : Str) = some (nv n) := lk1
theorem wF_im (n : Nat) (l : Addr) : (wF n l).lookup ("_images" : Str) = some (.ref l) := (lk2 (by decide +kernel)).trans lk1
theorem wF_no (n : Nat) (l : Addr) {m : Str} (h1 : (m == ("size" : Str)) = false) (h2 : (m == ("_images" : Str)) = false) : (wF n l).lookup m = none := (lk2 h1).trans (lk2 h2)
theorem wF_new (n : Nat) (l : Addr) : putF "_images" (.ref l) (putF "size" (nv n) []) = wF n l := by
  show putF "_images" (V.ref l) [(("size" : Str), nv n)] = _
  show (if (("size" : Str) = "_images") then _ else (("size" : Str), nv n) :: putF "_images" (V.ref l) []) = wF n l
  rw [if_neg (by decide +kernel)]
  rfl
/-- the wire with the images im, its list at l -/
def WireL (C : Addr) (H : Hp) (a l : Addr) (im : List Nat) : Prop := (∃ dx, H a = some (.ins C dx (wF im.length l))) ∧ H l = some (.lst (im.map nv))
def WireAt (C : Addr) (H : Hp) (a : Addr) (im : List Nat) : Prop := ∃ l, WireL C H a l im
theorem WireAt.mono {C : Addr} {H H' : Hp} {a : Addr} {im : List Nat} (x : WireAt C H a im) (s : Same H H') : WireAt C H' a im := by
  obtain ⟨l, ⟨dx, h1⟩, h2⟩ := x
  exact ⟨l, ⟨dx, s _ _ h1⟩, s _ _ h2⟩
/-- the class as the walk asks of it -/
structure WTxt (K : PySem.W.Frag) (C : Addr) : Prop where
  cl : Cls K C
  nS : NoAttr K C "size"
  nI : NoAttr K C "_images"
theorem enum_graph (im : List Nat) : mergeK [] (enumKV 0 (im.map nv)) = natKV (graph (ap im) (List.range im.length)) := by
  have key : ∀ (l : List (Nat × Nat)) (g : List (Nat × Nat)), ((g ++ l).map Prod.fst).Nodup → mergeK (natKV g) (natKV l) = natKV (g ++ l) := by
    intro l
    induction l with
    | nil => intro g _; rw [List.append_nil]; rfl
    | cons p l ih =>
      intro g hn
      have h1 : p.1 ∉ g.map Prod.fst := by
        rw [List.map_append] at hn
        intro hm
        exact (List.nodup_append.mp hn).2.2 _ hm _ List.mem_cons_self rfl
      show mergeK (putK (natKV g) (Sum.inl (p.1 : Int)) (nv p.2)) (natKV l) = _
      rw [putK_new _ (natKV_none h1)]
      have e : natKV g ++ [(Sum.inl (p.1 : Int), nv p.2)] = natKV (g ++ [p]) := by rw [natKV_append]; rfl
      rw [e, ih (g ++ [p]) (by rw [List.append_assoc]; exact hn), List.append_assoc]
      rfl
  have e : enumKV 0 (im.map nv) = natKV (graph (ap im) (List.range im.length)) := by
    apply List.ext_getElem?
    intro i
    rw [enumKV_get, natKV, graph, List.getElem?_map, List.getElem?_map, List.getElem?_map, Nat.zero_add]
    by_cases c : i < im.length
    · rw [List.getElem?_range c, ap_get c]; rfl
    · rw [List.getElem?_eq_none (show im.length ≤ i by omega), List.getElem?_eq_none (show (List.range im.length).length ≤ i by rw [List.length_range]; omega)]; rfl
  rw [e]
  have := key (graph (ap im) (List.range im.length)) [] (by rw [List.nil_append, graph_fst]; exact List.nodup_range)
  rw [List.nil_append] at this
  exact this
theorem moves_of_perm {im : List Nat} (hI : IsPerm im) (hn : im.length ≤ 60) : Moves (ap im) im.length (List.range im.length) where
  perm := hI.perm
  nd := List.nodup_range
  lt k h := List.mem_range.mp h
  all x h _ := List.mem_range.mpr h
  cl k h := List.mem_range.mpr (hI.perm.lt k (List.mem_range.mp h))
  few := by rw [List.length_range]; omega
  small := by
    rw [List.length_range]
    exact Nat.le_trans (Nat.mul_le_mul hn hn) (by decide)
section
variable {P : Program} {w : World} {K : PySem.W.Frag} {mg : Str → Option Value} {base : Heap} {C : Addr}
/-! ### Wire.__init__ -/
abbrev s_Wire_init : Stmt := inClass (top 11) 0
theorem sc_Wire_init : FnScope ["self", "size", "rings", "moves", "place"] ["self", "size", "rings"] (defScope s_Wire_init) := ⟨rfl, rfl, rfl, by decide +kernel, rfl, by decide +kernel, by decide +kernel⟩

/-- rings that f leads on; f stays elsewhere -/
structure RingsOf (f : Nat → Nat) (n : Nat) (rs : List (List Nat)) : Prop where
  ne : ∀ r ∈ rs, r ≠ []
  nd : rs.flatten.Nodup
  lt : ∀ x ∈ rs.flatten, x < n
  fol : ∀ r ∈ rs, Follows f r
  stay : ∀ x, x < n → x ∉ rs.flatten → f x = x
theorem RingsOf.few {f : Nat → Nat} {n : Nat} {rs : List (List Nat)} (R : RingsOf f n rs) : rs.flatten.length ≤ n := nodup_le n _ R.nd R.lt
theorem ringsOf_perm {f : Nat → Nat} {n : Nat} (P : PermF f n) : RingsOf f n (rings f n) :=
  ⟨fun _ h => rings_ne P h, rings_nodup P, fun _ h => rings_lt P h, fun _ h => rings_follow P h, fun _ h1 h2 => rings_stay P h1 h2⟩
def spInit (K : PySem.W.Frag) (C : Addr) : Sp := fun vs H Q _ => ∃ (p dx a : Addr) (n : Nat) (f : Nat → Nat) (as : List Addr) (rs : List (List Nat)), vs = [.ref p, nv n, .ref a] ∧ H p = some (.ins C dx []) ∧ SqL K H a (as.map V.ref) ∧ Rg H as rs ∧ RingsOf f n rs ∧ 1 ≤ n ∧ n ≤ 1000 ∧
  ∀ (l : Addr) (H' : Hp), (∀ b o, H b = some o → b ≠ p → H' b = some o) → H l = none → H' p = some (.ins C dx (wF n l)) → H' l = some (.lst (((List.range n).map f).map nv)) → Q .non H'
theorem ok_Wire_init {f : Addr} {fd : FuncData} (F : Fun K "__init__" "Wire.__init__" s_Wire_init f fd) (T : Blt mg) (W : WTxt K C) (D_moves_of : DefOk P w K mg base CX0 1 "moves_of" ["rings", "size"] [] (spMoves K)) :
    FnOk P w K mg base CX0 2 f fd ["self", "size", "rings"] (spInit K C) := by
  refine F.ok sc_Wire_init (fun vs H Q E h => ?_) (fun cdv A outer s H vs Q E hr h => ?_)
  · obtain ⟨p, dx, a, n, f, as, rs, rfl, _⟩ := h; rfl
  · obtain ⟨p, dx, a, n, f, as, rs, rfl, hp, hS, hg, R, n1, n2, q⟩ := h
    have hu := hu_of hr
    refine ⟨_, (pss_cons (ps_if (pt_cmpR op_lt (pv 1) pe_int (nomark _)) pss_never pss_nil)
    (pss_cons (ps_set (i := 3) sc_Wire_init.nd rfl (.inr rfl) (pe_d D_moves_of hr pass0 (pa_cons (pv 2) (pa_cons (pv 1) pa_nil))))
    (pss_cons (ps_fld (pv 0) (pv 1) rfl)
    (pss_one (ps_fld (pv 0) (pe_lc (own := [("place", 4)]) (tt := tYes) rfl sc_Wire_init.nd (pi_range1 (by rfl) T.range (pa_cons (pv 1) pa_nil)) (blkOk_by (N := ["self", "size", "rings", "moves", "place"]) (sc := defScope s_Wire_init) (by decide +kernel)) (fun _ _ _ _ _ => (pg_name (i := 4) sc_Wire_init.nd rfl (.inl rfl))) (fun _ _ _ _ _ => pts_nil) (fun _ _ _ _ _ => by exact (pe_dget2 hu (pv 3) (pv 4) (pv 4) ⟨rfl, rfl, rfl, rfl⟩))) rfl))))), ?_⟩
    refine ⟨_, rfl, _, _, rfl, rfl, _, rfl, decF (by omega) ?_⟩
    -- moves = moves_of(rings, size)
    refine ⟨_, rfl, _, rfl, a, nv n, as, rs, rfl, hS, hg, .inr ⟨n, rfl, R.lt⟩, R.ne, R.nd, Nat.le_trans R.few n2, fun d H1 s1 nd hd => ?_⟩
    rw [pairs_follow R.fol] at hd
    have hp1 := s1 _ _ hp
    -- self.size = size
    refine ⟨_, rfl, _, rfl, p, C, dx, [], rfl, hp1, W.cl, W.nS, (by show 0 < 1000; decide), ?_⟩
    have ndp : d ≠ p := fun e => by rw [e, hp] at nd; cases nd
    -- self._images = [..]
    refine ⟨_, rfl, _, rfl, by omega, by omega, fun l nl => ?_⟩
    rw [Int.toNat_natCast]
    have npl : p ≠ l := ne_of_none (H := upd H1 p _) upd_same nl
    have hl0 : H l = none := by
      cases z : H l with
      | none => rfl
      | some o =>
        rw [upd_ne npl.symm, s1 _ _ z] at nl
        cases nl
    refine lc_range (lo := 0) (n := n) (fun i H2 => Same (upd H1 p (.ins C dx (putF "size" (nv n) []))) H2 ∧ H2 l = some (.lst (((List.range i).map f).map nv))) ⟨same_upd nl, upd_same⟩ ?_ ?_
    · rintro i H2 hi ⟨s2, hl⟩
      rw [Int.zero_add]
      refine ⟨rfl, ?_⟩
      refine yesT ?_
      have hd2 : H2 d = some (.dK (natKV (graph f rs.flatten))) := s2 _ _ (by rw [upd_ne ndp]; exact hd)
      refine ⟨_, rfl, d, rfl, .inl ⟨_, .of hd2⟩, _, rfl, _, rfl, _, .inl ⟨_, Sum.inl (i : Int), .of hd2, rfl, rfl⟩, _, hl, small64 (by rw [List.length_map, List.length_map, List.length_range]; omega), mutS s2 nl, ?_⟩
      rw [upd_same, graph_get R.nd, List.range_succ, List.map_append, List.map_append]
      by_cases c : i ∈ rs.flatten
      · rw [if_pos c]; rfl
      · rw [if_neg c]
        show _ = some (HO.lst (((List.range i).map f).map nv ++ [nv (f i)]))
        rw [R.stay i hi c]
        rfl
    · rintro H2 ⟨s2, hl⟩
      refine ⟨_, rfl, p, C, dx, _, rfl, s2 _ _ upd_same, W.cl, W.nI, (by show 1 < 1000; decide), ?_⟩
      refine q l _ (fun b o hb hbp => ?_) hl0 (by rw [upd_same, wF_new]) (by rw [upd_ne npl.symm]; exact hl)
      rw [upd_ne hbp]
      exact s2 _ _ (by rw [upd_ne hbp]; exact s1 _ _ hb)
/-! ### Wire.rings -/
abbrev s_Wire_rings : Stmt := inClass (top 11) 3
theorem sc_Wire_rings : FnScope ["self"] ["self"] (defScope s_Wire_rings) := ⟨rfl, rfl, rfl, by decide +kernel, rfl, by decide +kernel, by decide +kernel⟩

def spWRings (C : Addr) : Sp := fun vs H Q _ => ∃ (a : Addr) (im : List Nat), vs = [.ref a] ∧ WireAt C H a im ∧ IsPerm im ∧ im.length ≤ 60 ∧
  ∀ (o : Addr) (as : List Addr) (H' : Hp), Same H H' → H o = none → (∀ a ∈ as, H a = none) → o ∉ as → as.Nodup → H' o = some (.lst (as.map V.ref)) → Rg H' as (rings (ap im) im.length) → Q (.ref o) H'
theorem ok_Wire_rings {f : Addr} {fd : FuncData} (F : Fun K "rings" "Wire.rings" s_Wire_rings f fd) (T : Blt mg) (W : WTxt K C) (D_rings_of : DefOk P w K mg base CX0 1 "rings_of" ["moves"] [] spRingsOf) :
    FnOk P w K mg base CX0 2 f fd ["self"] (spWRings C) := by
  refine F.ok sc_Wire_rings (fun vs H Q E h => ?_) (fun cdv A outer s H vs Q E hr h => ?_)
  · obtain ⟨a, im, rfl, _⟩ := h; rfl
  · obtain ⟨a, im, rfl, ⟨l, ⟨dx, h1⟩, h2⟩, hI, hn, q⟩ := h
    refine ⟨_, (pss_one (ps_ret (pe_d D_rings_of hr pass0 (pa_cons (pe_dictEnum rfl (by rfl) T.dict (by rfl) T.enumerate (pe_fld (pv 0) rfl)) pa_nil)))), ?_⟩
    refine ⟨_, rfl, a, C, dx, _, _, rfl, h1, W.cl, W.nI, wF_im _ _, l, _, rfl, SqL.of h2, fun d nd => ?_⟩
    rw [enum_graph]
    refine ⟨d, ap im, im.length, _, rfl, upd_same, moves_of_perm hI hn, fun o as H' s no nas hoa hnd ho hg => ?_⟩
    have s0 : Same H (upd H d (.dK (natKV (graph (ap im) (List.range im.length))))) := same_upd nd
    exact q o as H' (s0.trans s) (s0.free no) (fun b hb => s0.free (nas b hb)) hoa hnd ho hg
/-! ### Wire.order -/
abbrev s_Wire_order : Stmt := inClass (top 11) 5
theorem sc_Wire_order : FnScope ["self", "least", "ring"] ["self"] (defScope s_Wire_order) := ⟨rfl, rfl, rfl, by decide +kernel, rfl, by decide +kernel, by decide +kernel⟩

def spOrder (C : Addr) : Sp := fun vs H Q _ => ∃ (a : Addr) (im : List Nat), vs = [.ref a] ∧ WireAt C H a im ∧ IsPerm im ∧ im.length ≤ 60 ∧ ∀ H' : Hp, Same H H' → Q (nv (lcmTo (rings (ap im) im.length))) H'
theorem ok_Wire_order {f : Addr} {fd : FuncData} (F : Fun K "order" "Wire.order" s_Wire_order f fd) (B : Blt mg) (T : WTxt K C) (lcm : mg "lcm" = some (.builtin "math.lcm")) (D_Wire_rings : MethOk P w K mg base CX0 2 C "rings" ["self"] [] (spWRings C)) :
    FnOk P w K mg base CX0 3 f fd ["self"] (spOrder C) := by
  refine F.ok sc_Wire_order (fun vs H Q E h => ?_) (fun cdv A outer s H vs Q E hr h => ?_)
  · obtain ⟨a, im, rfl, _⟩ := h; rfl
  · obtain ⟨a, im, rfl, hW, hI, hn, q⟩ := h
    have P := hI.perm
    obtain ⟨l, ⟨dx, h1⟩, h2⟩ := id hW
    refine ⟨_, (pss_cons (ps_set (i := 1) sc_Wire_order.nd rfl (.inl rfl) pe_int)
      (pss_cons (ps_for PassesOwn.never rfl (pi_list (pe_m0 D_Wire_rings T.cl hr pass0 (pv 0))) (pg_name (i := 2) sc_Wire_order.nd rfl (.inl rfl)) (pss_one (ps_set (i := 1) sc_Wire_order.nd rfl (.inl rfl) (pe_callBfun cr_lcm (by rfl) lcm (pa_cons (pv 1) (pa_cons (pe_callB call_len_seq (by rfl) B.len PySem.boot_len (pa_cons (pv 2) pa_nil)) pa_nil))))))
      (pss_one (ps_ret (pv 1))))), ?_⟩
    refine ⟨_, rfl, a, dx, _, rfl, h1, wF_no _ _ (by decide +kernel) (by decide +kernel), a, im, rfl, hW, hI, hn, fun o as H1 s1 no nas hoa hnd ho hg => ?_⟩
    refine ⟨o, rfl, ⟨_, SqL.of ho⟩, for_list (K := K) (a := o) (xs := as.map V.ref) (fun i σ H2 => ∃ v2 : Option V, σ = [some (.ref a), some (nv (lcmTo ((rings (ap im) im.length).take i))), v2] ∧ H2 = H1) ⟨none, rfl, rfl⟩ (fun i σ H2 _ ⟨_, _, e⟩ => by rw [e]; exact SqL.of ho) ?_ ?_⟩
    · rintro i y σ H2 hi ⟨v2, rfl, rfl⟩
      obtain ⟨b, hb, rfl⟩ : ∃ b, as[i]? = some b ∧ y = V.ref b := by
        rw [List.getElem?_map] at hi
        cases e : as[i]? with
        | none => rw [e] at hi; cases hi
        | some b => rw [e] at hi; exact ⟨b, rfl, (Option.some.inj hi).symm⟩
      have hil : i < (rings (ap im) im.length).length := by rw [← hg.len]; exact (List.getElem?_eq_some_iff.mp hb).1
      obtain ⟨r, hr'⟩ : ∃ r, (rings (ap im) im.length)[i]? = some r := ⟨_, List.getElem?_eq_getElem hil⟩
      have hbr := hg.at_ i b r hb hr'
      have rlen : r.length ≤ im.length := by
        obtain ⟨p, hp, rfl⟩ := List.mem_map.mp (List.mem_of_getElem? hr')
        rw [ring_len]
        exact (per_spec P (mem_heads.mp hp).1).2.2.1
      refine ⟨_, rfl, _, rfl, b, _, rfl, .inl (SqL.of hbr), _, _, rfl, lcmTo_lt P hn i, ?_, ?_⟩
      · rw [List.length_map]; omega
      · refine ⟨some (V.ref b), ?_, rfl⟩
        rw [List.length_map, lcmTo_snoc hr']
        rfl
    · rintro σ H2 ⟨v2, rfl, rfl⟩
      rw [List.length_map, hg.len, List.take_length]
      exact ⟨_, rfl, q _ s1⟩
end
theorem dec_nv (a b : Nat) : decide (nv a = nv b) = decide (a = b) := by
  by_cases c : a = b
  · rw [decide_eq_true c, decide_eq_true (by rw [c])]
  · rw [decide_eq_false c, decide_eq_false (fun z => c (by have := V.int.inj z; omega))]
section
variable {P : Program} {w : World} {K : PySem.W.Frag} {mg : Str → Option Value} {base : Heap} {C : Addr}
/-! ### _law_wire -/
abbrev s_l_wire : Stmt := top 25
theorem sc_l_wire : FnScope ["_law_images"] ["_law_images"] (defScope s_l_wire) := ⟨rfl, rfl, rfl, by decide +kernel, rfl, by decide +kernel, by decide +kernel⟩

def spLWire (K : PySem.W.Frag) (C : Addr) : Sp := fun vs H Q _ => ∃ (a : Addr) (im : List Nat), vs = [.ref a] ∧ SqL K H a (im.map nv) ∧ IsPerm im ∧ 1 ≤ im.length ∧ im.length ≤ 100 ∧
  ∀ (x l : Addr) (H' : Hp), Same H H' → H x = none → H l = none → WireL C H' x l im → Q (.ref x) H'
theorem ok_l_wire {f : Addr} {fd : FuncData} (F : Fun K "_law_wire" "_law_wire" s_l_wire f fd) (T : Blt mg) (M_Wire : MakeOk P w K mg base CX0 2 C "Wire" ["self", "size", "rings"] [] (spInit K C)) (D_l_rings : DefOk P w K mg base CX0 1 "_law_rings" ["_law_images"] [] (spRings K)) :
    FnOk P w K mg base CX0 4 f fd ["_law_images"] (spLWire K C) := by
  refine F.ok sc_l_wire (fun vs H Q E h => ?_) (fun cdv A outer s H vs Q E hr h => ?_)
  · obtain ⟨a, im, rfl, _⟩ := h; rfl
  · obtain ⟨a, im, rfl, hS, hI, n1, n2, q⟩ := h
    have P := hI.perm
    refine ⟨_, (pss_one (ps_ret (pe_mk' M_Wire hr pass0 (pa_cons (pe_callB call_len_seq (by rfl) T.len PySem.boot_len (pa_cons (pv 0) pa_nil)) (pa_cons (pe_d D_l_rings hr pass0 (pa_cons (pv 0) pa_nil)) pa_nil))))), ?_⟩
    refine ⟨_, rfl, a, _, rfl, .inl hS, _, rfl, a, im, rfl, hS, hI, by omega, fun o as H1 s1 no nas hoa hnd ho hg => ?_⟩
    intro x dx nx ndx nex
    have s2 : Same H1 (upd (upd H1 dx (.own x)) x (.ins C dx [])) := (same_upd ndx).trans (same_upd (by rw [upd_ne nex.symm]; exact nx))
    rw [List.length_map]
    refine ⟨x, dx, o, im.length, ap im, as, _, rfl, upd_same, SqL.of (s2 _ _ ho), hg.mono s2, ringsOf_perm P, n1, by omega, fun l H2 k nl hx hl => ⟨rfl, ?_⟩⟩
    have s3 : Same H1 H2 := Same.made nx ndx k
    rw [im_eq] at hl
    exact q x l H2 (s1.trans s3) (s1.free nx) ((s1.trans s2).free nl) ⟨⟨dx, hx⟩, hl⟩
/-! ### _law_of_kind -/
abbrev s_l_of_kind : Stmt := top 23
theorem sc_l_of_kind : FnScope ["_law_kind", "_law_bound", "_law_cell_here", "_law_n", "_law_draw", "_law_mixed", "_law_out", "_law_pairs", "_law_k"] ["_law_kind", "_law_bound", "_law_cell_here", "_law_n", "_law_draw"] (defScope s_l_of_kind) := ⟨rfl, rfl, rfl, by decide +kernel, rfl, by decide +kernel, by decide +kernel⟩

def spKind : Sp := fun vs H Q _ => ∃ (k : Str) (c : Int) (n d : Nat), vs = [.str k, .non, .int c, nv n, nv d] ∧ n ≤ 100 ∧
  ∀ (im : List Nat) (p : Addr) (H' : Hp), Same H H' → H p = none → H' p = some (.lst (im.map nv)) → IsPerm im → im.length = n → Q (.ref p) H'
theorem ok_l_of_kind {f : Addr} {fd : FuncData} (F : Fun K "_law_of_kind" "_law_of_kind" s_l_of_kind f fd) (T : Blt mg) (D_l_drawn : DefOk P w K mg base CX0 2 "_law_drawn" ["_law_cell_here", "_law_n"] [] spDrawn) :
    FnOk P w K mg base CX0 3 f fd ["_law_kind", "_law_bound", "_law_cell_here", "_law_n", "_law_draw"] spKind := by
  refine F.ok sc_l_of_kind (fun vs H Q E h => ?_) (fun cdv A outer s H vs Q E hr h => ?_)
  · obtain ⟨k, c, n, d, rfl, _⟩ := h; rfl
  · obtain ⟨k, c, n, d, rfl, hn, q⟩ := h
    refine ⟨_, (pss_cons (ps_set (i := 5) sc_l_of_kind.nd rfl (.inl rfl) (pe_d D_l_drawn hr pass0 (pa_cons (pv 2) (pa_cons (pv 3) pa_nil))))
    (pss_cons (ps_if (pt_cmpR op_eq (pv 0) pe_str (nomark _)) (pss_one (ps_ret (pv 5))) pss_nil)
    (pss_cons (ps_set (i := 6) sc_l_of_kind.nd rfl (.inl rfl) (pe_listRg rfl (by rfl) T.list (prg_1 (by rfl) T.range (pv 3))))
    (pss_cons (ps_set (i := 7) sc_l_of_kind.nd rfl (.inl rfl) (pe_op op_fdiv (pv 3) pe_int))
    (pss_cons (ps_if (pt_cmpR op_eq (pv 0) pe_str (nomark _)) (pss_cons (ps_set (i := 7) sc_l_of_kind.nd rfl (.inl rfl) (pe_op op_mod (pv 4) (pe_op op_add (pe_op op_fdiv (pv 3) pe_int) pe_int)))
    (pss_one (ps_if (PW.pt (pw_and (pt_cmpR op_notN (pv 1) pe_non (nomark _)) (pw_and1 (pt_cmpR op_gt (pv 7) (pv 1) (nomark _))))) (pss_one (ps_set (i := 7) sc_l_of_kind.nd rfl (.inl rfl) (pv 1))) pss_nil))) pss_nil)
    (pss_cons (ps_for PassesOwn.never rfl (pi_range1 (by rfl) T.range (pa_cons (pv 7) pa_nil)) (pg_name (i := 8) sc_l_of_kind.nd rfl (.inl rfl)) (pss_cons (ps_asg (pe_ix ix_list (pv 5) (pe_op op_add (pe_op op_mul pe_int (pv 8)) pe_int) (fun _ _ => rfl)) (pg_sub (pv 6) (pe_ix ix_list (pv 5) (pe_op op_mul pe_int (pv 8)) (fun _ _ => rfl)) set_list))
    (pss_one (ps_asg (pe_ix ix_list (pv 5) (pe_op op_mul pe_int (pv 8)) (fun _ _ => rfl)) (pg_sub (pv 6) (pe_ix ix_list (pv 5) (pe_op op_add (pe_op op_mul pe_int (pv 8)) pe_int) (fun _ _ => rfl)) set_list)))))
    (pss_one (ps_ret (pv 6))))))))), ?_⟩
    refine ⟨_, rfl, _, rfl, c, n, rfl, hn, fun mx m H1 s1 nm hm hI hl => ?_⟩
    refine ⟨_, rfl, rfl, _, rfl, ite2 (fun _ => ⟨_, rfl, q mx m H1 s1 nm hm hI hl⟩) (fun _ => ?_)⟩
    -- out = list(range(n)); pairs = n // 2
    refine ⟨_, rfl, _, rfl, ⟨by omega, by omega, by omega, by omega, by omega⟩, fun o no => ?_⟩
    rw [rgV_nat]
    have s2 : Same H (upd H1 o (.lst ((List.range n).map nv))) := s1.trans (same_upd no)
    have nmo : m ≠ o := ne_of_none hm no
    refine ⟨_, rfl, _, _, rfl, rfl, ⟨by decide, by decide⟩, ?_⟩
    -- the loop, for any number of pairs
    have loop : ∀ (pr : Nat) (D : Ends), pr ≤ n / 2 → D.rt = Q →
        tSeq (tFor (iRng1 (tCons (tVar 7) tNil)) (gName 8) (tSeq (tAsg (tOp (rIxL K) (tVar 5) (tOp (rI0 fun i j => .int (i + j)) (tOp (rI CMul fun i j => .int (i * j)) (tC (.int 2)) (tVar 8)) (tC (.int 1)))) (gSub (tVar 6) (tOp (rIxL K) (tVar 5) (tOp (rI CMul fun i j => .int (i * j)) (tC (.int 2)) (tVar 8))) rSetL))
          (tAsg (tOp (rIxL K) (tVar 5) (tOp (rI CMul fun i j => .int (i * j)) (tC (.int 2)) (tVar 8))) (gSub (tVar 6) (tOp (rIxL K) (tVar 5) (tOp (rI0 fun i j => .int (i + j)) (tOp (rI CMul fun i j => .int (i * j)) (tC (.int 2)) (tVar 8)) (tC (.int 1)))) rSetL)))) (tRet (tVar 6)) D
          [some (.str k), some .non, some (.int c), some (nv n), some (nv d), some (.ref m), some (.ref o), some (nv pr), none] (upd H1 o (.lst ((List.range n).map nv))) := fun pr D hpr hD => by
      refine ⟨_, rfl, (pr : Int), rfl, by omega, by omega, ?_⟩
      rw [Int.toNat_natCast]
      refine for_range (lo := 0) (n := pr) (fun i σ H2 => ∃ (v8 : Option V) (g : Nat → Nat), σ = [some (.str k), some .non, some (.int c), some (nv n), some (nv d), some (.ref m), some (.ref o), some (nv pr), v8] ∧ H2 = upd H1 o (.lst (((List.range n).map g).map nv)) ∧ Swp mx n i g)
        ⟨none, id, rfl, by rw [List.map_id], Swp.start⟩ ?_ ?_
      · rintro i σ H2 hi ⟨v8, g, rfl, rfl, S⟩
        rw [Int.zero_add]
        obtain ⟨a, ha⟩ : ∃ a, mx[2 * i]? = some a := ⟨_, List.getElem?_eq_getElem (by omega)⟩
        obtain ⟨b, hb⟩ : ∃ b, mx[2 * i + 1]? = some b := ⟨_, List.getElem?_eq_getElem (by omega)⟩
        have han : a < n := by rw [← hl]; exact hI.lt a (List.mem_of_getElem? ha)
        have hbn : b < n := by rw [← hl]; exact hI.lt b (List.mem_of_getElem? hb)
        have hM : ∀ z, SqL K (upd H1 o z) m (mx.map nv) := fun z => SqL.of (by rw [upd_ne nmo]; exact hm)
        have ea : atI (mx.map nv) (2 * (i : Int)) = some (nv a) := by
          rw [show (2 * (i : Int)) = ((2 * i : Nat) : Int) by omega]
          exact atI_nat (nv_get ha)
        have eb : atI (mx.map nv) (2 * (i : Int) + 1) = some (nv b) := by
          rw [show (2 * (i : Int) + 1) = ((2 * i + 1 : Nat) : Int) by omega]
          exact atI_nat (nv_get hb)
        have ix : ∀ (l : List V) (z : Nat), l.length = n → z < n → ixN l.length (z : Int) = some z := fun l z hl hz => by
          unfold ixN
          rw [if_pos (by omega), if_pos (by omega)]
          simp
        refine ⟨_, rfl, _, rfl, _, _, rfl, rfl, .inl ⟨by decide, by decide⟩, _, _, rfl, rfl, m, _, _, _, rfl, rfl, hM _, eb, ?_⟩
        refine ⟨_, rfl, _, rfl, _, rfl, _, _, rfl, rfl, .inl ⟨by decide, by decide⟩, m, _, _, _, rfl, rfl, hM _, ea, ?_⟩
        refine ⟨o, _, _, a, rfl, rfl, upd_same, ix _ a (by rw [List.length_map, List.length_map, List.length_range]) han, ?_⟩
        rw [upd_upd]
        refine ⟨_, rfl, _, rfl, _, _, rfl, rfl, .inl ⟨by decide, by decide⟩, m, _, _, _, rfl, rfl, hM _, ea, ?_⟩
        refine ⟨_, rfl, _, rfl, _, rfl, _, _, rfl, rfl, .inl ⟨by decide, by decide⟩, _, _, rfl, rfl, m, _, _, _, rfl, rfl, hM _, eb, ?_⟩
        refine ⟨o, _, _, b, rfl, rfl, upd_same, ix _ b (by rw [List.length_set, List.length_map, List.length_map, List.length_range]) hbn, ?_⟩
        rw [upd_upd]
        refine ⟨_, swp g a b, rfl, ?_, S.more hI hl ha hb⟩
        congr 2
        rw [← swp_list, List.map_set, List.map_set]
      · rintro σ H2 ⟨v8, g, rfl, rfl, S⟩
        refine ⟨_, rfl, ?_⟩
        have e : D.rt (V.ref o) (upd H1 o (.lst (((List.range n).map g).map nv))) := by
          rw [hD]
          exact q _ o _ (mutS s1 (s1.free no)) (s1.free no) upd_same (isPerm_of_graph S.perm) (by rw [List.length_map, List.length_range])
        exact e
    refine ⟨_, rfl, rfl, _, rfl, ite2 (fun _ => ?_) (fun _ => ?_)⟩
    · refine ⟨_, rfl, _, rfl, _, _, rfl, rfl, ⟨by decide, by decide⟩, _, _, rfl, rfl, _, _, rfl, rfl, (by show (0 : Int) < (n : Int) / 2 + 1; omega), ?_⟩
      refine ⟨_, rfl, rfl, _, rfl, iteF (iteF ?_)⟩
      have e : V.int ((d : Int) % ((n : Int) / 2 + 1)) = nv (d % (n / 2 + 1)) := by
        show V.int _ = V.int _
        congr 1
      show tSeq _ _ _ [some (.str k), some .non, some (.int c), some (nv n), some (nv d), some (.ref m), some (.ref o), some (V.int ((d : Int) % ((n : Int) / 2 + 1))), none] _
      rw [e]
      exact loop _ _ (by have := Nat.mod_lt d (show 0 < n / 2 + 1 by omega); omega) rfl
    · exact loop (n / 2) _ (Nat.le_refl _) rfl
end
/-! ### texts of rings -/
def txN (n : Nat) : Str := Str.ofString (toString (n : Int))
def txR (r : List Nat) : Str := ("(" : Str) ++ Txt.join "," (r.map txN) ++ (")" : Str)
def txJ (rs : List (List Nat)) : Str := Txt.join "" (rs.map txR)
def txA (rs : List (List Nat)) : Str := if (txJ rs).length = 0 then ("()" : Str) else txJ rs
theorem txN_len {n : Nat} (h : n < 1000) : (txN n).length ≤ 4 := by
  unfold txN
  rw [PySem.ofString_length]
  exact int_text_length_le10 (k := 3) (by decide) (by rw [Int.natAbs_natCast]; exact h)
theorem sum_le_mul {α : Type} {l : List α} {f : α → Nat} {c : Nat} (h : ∀ x ∈ l, f x ≤ c) : (l.map f).sum ≤ l.length * c := by
  induction l with
  | nil => simp
  | cons x l ih =>
    rw [List.map_cons, List.sum_cons, List.length_cons, Nat.succ_mul]
    have := h x List.mem_cons_self
    have := ih fun y hy => h y (List.mem_cons_of_mem _ hy)
    omega
theorem join_le (sep : Str) (ys : List Str) : (Txt.join sep ys).length ≤ (ys.map (·.length)).sum + ys.length * sep.length := by
  show (Builtin.Str.glued sep ys).length ≤ _
  rw [StrLaws.glued_eq_join]
  exact StrLaws.join_length_le sep ys
theorem comma_len : (("," : Str)).length = 1 := by decide +kernel
theorem open_len : (("(" : Str)).length = 1 := by decide +kernel
theorem close_len : ((")" : Str)).length = 1 := by decide +kernel
theorem none_len : (("" : Str)).length = 0 := by decide +kernel
theorem join_ring {r : List Nat} (h : ∀ x ∈ r, x < 1000) : ((r.map txN).map (·.length)).sum ≤ r.length * 4 := by
  rw [List.map_map]
  exact sum_le_mul fun x hx => txN_len (h x hx)
theorem app_len (x y : Str) : (x ++ y).length = x.length + y.length := by
  show (x.cps ++ y.cps).size = _
  rw [Array.size_append]
  rfl
theorem txR_len {r : List Nat} (h : ∀ x ∈ r, x < 1000) : (txR r).length ≤ r.length * 5 + 2 := by
  unfold txR
  have a := join_le "," (r.map txN)
  have b := join_ring h
  rw [List.length_map, comma_len] at a
  rw [app_len, app_len, open_len, close_len]
  omega
theorem txJ_sum : ∀ {rs : List (List Nat)}, (∀ x ∈ rs.flatten, x < 1000) → ((rs.map txR).map (·.length)).sum ≤ rs.flatten.length * 5 + rs.length * 2
  | [], _ => by simp
  | r :: rs, h => by
    have a := txR_len (r := r) fun x hx => h x (by rw [List.flatten_cons]; exact List.mem_append_left _ hx)
    have b := txJ_sum (rs := rs) fun x hx => h x (by rw [List.flatten_cons]; exact List.mem_append_right _ hx)
    rw [List.map_cons, List.map_cons, List.sum_cons, List.flatten_cons, List.length_append, List.length_cons]
    omega
theorem mem_len {r : List Nat} : ∀ {rs : List (List Nat)}, r ∈ rs → r.length ≤ rs.flatten.length
  | [], h => by cases h
  | q :: rs, h => by
    rw [List.flatten_cons, List.length_append]
    rcases List.mem_cons.mp h with e | e
    · rw [e]; omega
    · have := mem_len e
      omega
theorem txA_len {rs : List (List Nat)} (hx : ∀ x ∈ rs.flatten, x < 1000) (hl : rs.flatten.length ≤ 1000) (hn : rs.length ≤ 1000) : (txA rs).length ≤ 10000 := by
  have b1 := txJ_sum hx
  have a := join_le "" (rs.map txR)
  rw [List.length_map, none_len] at a
  have b2 : (txJ rs).length ≤ 10000 := by
    show (Txt.join "" (rs.map txR)).length ≤ _
    omega
  unfold txA
  by_cases c : (txJ rs).length = 0
  · rw [if_pos c]
    decide +kernel
  · rw [if_neg c]
    exact b2
def rJoin (K : PySem.W.Frag) : V → List V → Hp → VK → Prop := fun x xs H Q => ∃ (a : Str) (p : Addr) (ys : List Str), x = .str a ∧ xs = [.ref p] ∧ (SqL K H p (ys.map V.str) ∨ SqT K H p (ys.map V.str)) ∧ (ys.map (·.length)).sum + ys.length * a.length ≤ 16777216 ∧ Q (.str (Txt.join a ys)) H
def rAddS : R2 := fun x y H Q => ∃ i j, x = .str i ∧ y = .str j ∧ i.length + j.length ≤ sizeLine ∧ Q (.str (i ++ j)) H
def rStrI : List V → Hp → VK → Prop := fun xs H Q => ∃ i, xs = [.int i] ∧ i.natAbs.log2 < 1920 ∧ Q (.str (toString i)) H
section
variable {X : Cx} {o e : Expr} {to te : TE}
theorem pe_joinS {apos pos : Pos} (ho : PE X o to) (he : PE X e te) (hs : starEach [e] X.env = [(false, eval e X.env)] := by rfl) (hbase : attributeBase o "join" X.env (eval o X.env) = eval o X.env := by rfl) (hline : (apos.endLine == pos.line) = true := by rfl) :
    PE X (.Call (.Attribute o "join" apos) [e] [] pos) (tM1 (rJoin X.K) to te) := pe_join ho he hs hbase hline
theorem op_addS : OpR X (binaryOp .Add) rAddS := op_add_str
theorem call_strI : CallR X (.type "str") rStrI := call_str_int
end
section
variable {P : Program} {w : World} {K : PySem.W.Frag} {mg : Str → Option Value} {base : Heap} {C : Addr}
abbrev s_rings_text : Stmt := top 15
theorem sc_rings_text : FnScope ["rings", "ring", "place"] ["rings"] (defScope s_rings_text) := ⟨rfl, rfl, rfl, by decide +kernel, rfl, by decide +kernel, by decide +kernel⟩

def spText (K : PySem.W.Frag) : Sp := fun vs H Q _ => ∃ (a : Addr) (as : List Addr) (rs : List (List Nat)), vs = [.ref a] ∧ SqL K H a (as.map V.ref) ∧ Rg H as rs ∧ (∀ x ∈ rs.flatten, x < 1000) ∧ rs.flatten.length ≤ 1000 ∧ rs.length ≤ 1000 ∧
  ∀ H' : Hp, Same H H' → Q (.str (txA rs)) H'
theorem ok_rings_text {f : Addr} {fd : FuncData} (F : Fun K "rings_text" "rings_text" s_rings_text f fd) (T : Blt mg) (str : mg "str" = none) : FnOk P w K mg base CX0 1 f fd ["rings"] (spText K) := by
  refine F.ok sc_rings_text (fun vs H Q E h => ?_) (fun cdv A outer s H vs Q E hr h => ?_)
  · obtain ⟨a, as, rs, rfl, _⟩ := h; rfl
  · obtain ⟨a, as, rs, rfl, hS, hg, hx, hl, hn, q⟩ := h
    refine ⟨_, (pss_one (ps_ret (pe_orT (pe_joinS pe_str (pe_lc (own := [("ring", 1)]) (tt := tYes) (te := tOp rAddS (tOp rAddS (tC (.str "(")) (tM1 (rJoin K) (tC (.str ",")) (tLc (iList K (tVar 1)) (gName 2) tYes (tCB rStrI (tCons (tVar 2) tNil)) [2]))) (tC (.str ")"))) rfl sc_rings_text.nd (pi_list (pv 0)) (blkOk_by (N := ["rings", "ring", "place"]) (sc := defScope s_rings_text) (by decide +kernel)) (fun _ _ _ _ _ => (pg_name (i := 1) sc_rings_text.nd rfl (.inl rfl))) (fun _ _ _ _ _ => pts_nil) (fun _ _ _ _ _ => by exact (pe_op op_addS (pe_op op_addS pe_str (pe_joinS pe_str (pe_lc (own := [("place", 2)]) (tt := tYes) rfl sc_rings_text.nd (pi_list (pv 1)) (by exact (blkOk_by (N := ["rings", "ring", "place"]) (by rfl))) (fun _ _ _ _ _ => (pg_name (i := 2) sc_rings_text.nd rfl (.inl rfl))) (fun _ _ _ _ _ => pts_nil) (fun _ _ _ _ _ => by exact (pe_callTy call_strI (by rfl) str (by decide +kernel) (pa_cons (pv 2) pa_nil)))))) pe_str)))) (pe_one pe_str)))), ?_⟩
    refine ⟨⟨_, rfl⟩, _, rfl, a, rfl, ⟨_, hS⟩, fun D nD => ?_⟩
    refine lc_list (K := K) (a := a) (xs := as.map V.ref) (fun i H1 => Same H H1 ∧ H1 D = some (.lst (((rs.take i).map txR).map V.str))) ⟨same_upd nD, upd_same⟩ (fun i H1 _ ⟨s1, _⟩ => s1.seq hS) ?_ ?_
    · rintro i y H1 hi ⟨s1, hD⟩
      obtain ⟨b, hb, rfl⟩ : ∃ b, as[i]? = some b ∧ y = V.ref b := by
        rw [List.getElem?_map] at hi
        cases e : as[i]? with
        | none => rw [e] at hi; cases hi
        | some b => rw [e] at hi; exact ⟨b, rfl, (Option.some.inj hi).symm⟩
      have hil : i < rs.length := by rw [← hg.len]; exact (List.getElem?_eq_some_iff.mp hb).1
      obtain ⟨r, hr'⟩ : ∃ r, rs[i]? = some r := ⟨_, List.getElem?_eq_getElem hil⟩
      have hbr := hg.at_ i b r hb hr'
      have hrx : ∀ x ∈ r, x < 1000 := fun x hx' => hx x (List.mem_flatten.mpr ⟨r, List.mem_of_getElem? hr', hx'⟩)
      have hrl : r.length ≤ 1000 := by
        have := mem_len (List.mem_of_getElem? hr')
        omega
      refine ⟨rfl, yesT ?_⟩
      refine ⟨⟨_, rfl⟩, _, rfl, b, rfl, ⟨_, SqL.of (s1 _ _ hbr)⟩, fun D2 nD2 => ?_⟩
      refine lc_list (K := K) (a := b) (xs := r.map nv) (fun j H2 => Same H1 H2 ∧ H2 D2 = some (.lst (((r.take j).map txN).map V.str))) ⟨same_upd nD2, upd_same⟩ (fun j H2 _ ⟨s2, _⟩ => SqL.of (s2 _ _ (s1 _ _ hbr))) ?_ ?_
      · rintro j y H2 hj ⟨s2, hD2⟩
        obtain ⟨x, hx', rfl⟩ := of_nv_get hj
        refine ⟨rfl, yesT ?_⟩
        refine ⟨_, rfl, (x : Int), rfl, ?_, _, hD2, small64 (by rw [List.length_map, List.length_map, List.length_take]; omega), mutS s2 nD2, ?_⟩
        · have := hrx x (List.mem_of_getElem? hx')
          rw [Int.natAbs_natCast]
          exact Nat.lt_of_le_of_lt (Nat.log2_le_self x) (by omega)
        · rw [upd_same, List.take_add_one, hx', List.map_append, List.map_append]
          rfl
      · rintro H2 ⟨s2, hD2⟩
        rw [List.length_map, List.take_length] at hD2
        have b1 := join_ring hrx
        have b2 := txR_len hrx
        have b3 : (Txt.join "," (r.map txN)).length ≤ r.length * 4 + r.length := by
          have a := join_le "," (r.map txN)
          rw [List.length_map, comma_len] at a
          omega
        refine ⟨",", D2, r.map txN, rfl, rfl, .inl (SqL.of hD2), by rw [List.length_map, comma_len]; omega, "(", _, rfl, rfl, by rw [open_len, sizeLine_eq]; omega, _, ")", rfl, rfl, by rw [app_len, open_len, close_len, sizeLine_eq]; omega,
          _, s2 _ _ hD, small64 (by rw [List.length_map, List.length_map, List.length_take]; omega), mutS (s1.trans s2) nD, ?_⟩
        rw [upd_same, List.take_add_one, hr', List.map_append, List.map_append]
        rfl
    · rintro H1 ⟨s1, hD⟩
      rw [List.length_map, hg.len, List.take_length] at hD
      have b1 := txJ_sum hx
      have b2 : (txJ rs).length ≤ 10000 := by
        have a := join_le "" (rs.map txR)
        rw [List.length_map, none_len] at a
        show (Txt.join "" (rs.map txR)).length ≤ _
        omega
      refine ⟨"", D, rs.map txR, rfl, rfl, .inl (SqL.of hD), by rw [List.length_map, none_len]; omega, ?_⟩
      refine ⟨((txJ rs).length : Int) != 0, ⟨by rw [sizeLine_eq]; show (txJ rs).length ≤ _; omega, rfl⟩, ?_⟩
      by_cases c : (txJ rs).length = 0
      · have e : (((txJ rs).length : Int) != 0) = false := by rw [c]; rfl
        rw [e]
        refine iteF ?_
        have := q H1 s1
        unfold txA at this
        rw [if_pos c] at this
        exact this
      · have e : (((txJ rs).length : Int) != 0) = true := by rw [bne_iff_ne]; omega
        rw [e]
        refine iteT ?_
        have := q H1 s1
        unfold txA at this
        rw [if_neg c] at this
        exact this
end
structure BltC (K : PySem.W.Frag) (mg : Str → Option Value) (C : Addr) : Prop extends Blt mg where
  cl : Cls K C
/-! ### lists of ints and of bools compared -/
theorem dpI {K : PySem.W.Frag} {H : Hp} {a : Addr} {l : List Nat} (h : SqL K H a (l.map nv)) : Dp K H (.ref a) (.list (l.map fun (x : Nat) => PyData.int x)) := by
  refine .lst h ?_
  clear h
  induction l with
  | nil => exact .nil
  | cons x l ih => exact .cons (.int x) ih
theorem canI (l : List Nat) : PyData.canLayAll0 (l.map fun (x : Nat) => PyData.int x) = true := by
  induction l with
  | nil => rfl
  | cons x l ih =>
    rw [List.map_cons, PyData.canLayAll0, ih]
    rfl
theorem depI (l : List Nat) : PyData.depthAll (l.map fun (x : Nat) => PyData.int x) = 0 := by
  induction l with
  | nil => rfl
  | cons x l ih =>
    rw [List.map_cons, PyData.depthAll, ih]
    rfl
theorem shI (l : List Nat) : SeqAt.shaped (.list (l.map fun (x : Nat) => PyData.int x)) = true := by
  unfold SeqAt.shaped
  rw [PyData.canLay0, canI, PyData.depth, depI]
  rfl
theorem eqI (l m : List Nat) : PyData.eqv (.list (l.map fun (x : Nat) => PyData.int x)) (.list (m.map fun (x : Nat) => PyData.int x)) = decide (l = m) := by
  rw [PyData.eqv]
  induction l generalizing m with
  | nil =>
    cases m with
    | nil => rfl
    | cons y m => rfl
  | cons x l ih =>
    cases m with
    | nil => rfl
    | cons y m =>
      rw [List.map_cons, List.map_cons, PyData.eqvAll, ih m, PyData.eqv]
      by_cases c : x = y
      · subst c
        rw [beq_self_eq_true, Bool.true_and]
        simp
      · have : ((x : Int) == (y : Int)) = false := by rw [beq_eq_false_iff_ne]; omega
        rw [this, Bool.false_and]
        simp [c]
/-- the wire's class as the law asks of it -/
structure WTop (K : PySem.W.Frag) (mg : Str → Option Value) (C : Addr) : Prop extends BltC K mg C where
  g_Wire : mg "Wire" = some (.ref C)
  cla : PySem.W.findIn K (.ref C) "__class__" = some (some (.builtin "object.__class__"))
  hget : PySem.W.specialIn K (.builtin "object.__class__") "__get__" = some (some (.builtin "getset_descriptor.__get__"))
  htk : PySem.W.takesIn K (.builtin "object.__class__") = some true
  hmro : PySem.W.mroIn K C (.type "object") = some true
theorem kit_self {K : PySem.W.Frag} {v : Value} : PySem.W.kitOne K v v = some true := by
  unfold PySem.W.kitOne
  rw [if_pos (beq_self_eq_true _)]
section
variable {P : Program} {w : World} {K : PySem.W.Frag} {mg : Str → Option Value} {base : Heap} {C : Addr}
/-! ### Wire.images, __eq__, __str__ -/
abbrev s_Wire_images : Stmt := inClass (top 11) 2
theorem sc_Wire_images : FnScope ["self"] ["self"] (defScope s_Wire_images) := ⟨rfl, rfl, rfl, by decide +kernel, rfl, by decide +kernel, by decide +kernel⟩

def spImages (C : Addr) : Sp := fun vs H Q _ => ∃ (a : Addr) (im : List Nat), vs = [.ref a] ∧ WireAt C H a im ∧ im.length ≤ 1000 ∧ ∀ (o : Addr) (H' : Hp), Same H H' → H o = none → H' o = some (.lst (im.map nv)) → Q (.ref o) H'
theorem ok_Wire_images {f : Addr} {fd : FuncData} (F : Fun K "images" "Wire.images" s_Wire_images f fd) (T : Blt mg) (W : WTxt K C) : FnOk P w K mg base CX0 1 f fd ["self"] (spImages C) := by
  refine F.ok sc_Wire_images (fun vs H Q E h => ?_) (fun cdv A outer s H vs Q E hr h => ?_)
  · obtain ⟨a, im, rfl, _⟩ := h; rfl
  · obtain ⟨a, im, rfl, ⟨l, ⟨dx, h1⟩, h2⟩, hn, q⟩ := h
    refine ⟨_, (pss_one (ps_ret (pe_callTy call_list_of (by rfl) T.list PyProof.Rows.boot_list (pa_cons (pe_fld (pv 0) rfl) pa_nil)))), ?_⟩
    refine ⟨_, rfl, a, C, dx, _, _, rfl, h1, W.cl, W.nI, wF_im _ _, ?_⟩
    exact ⟨l, _, rfl, .inl (SqL.of h2), fun o no => q o _ (same_upd no) no upd_same⟩
abbrev s_Wire_eq : Stmt := inClass (top 11) 13
theorem sc_Wire_eq : FnScope ["self", "other"] ["self", "other"] (defScope s_Wire_eq) := ⟨rfl, rfl, rfl, by decide +kernel, rfl, by decide +kernel, by decide +kernel⟩

def spEq (K : PySem.W.Frag) (C : Addr) : Sp := fun vs H Q _ => ∃ (a : Addr) (im : List Nat) (y : V), vs = [.ref a, y] ∧ WireAt C H a im ∧
  ((∃ (b : Addr) (jm : List Nat), y = .ref b ∧ WireAt C H b jm ∧ ∀ H' : Hp, Same H H' → Q (.bl (decide (im = jm))) H') ∨ ∃ t : Value, TyX K H y t ∧ PySem.W.kitOne K t (.ref C) = some false ∧ ∀ H' : Hp, Same H H' → Q (.bl false) H')
theorem ok_Wire_eq {f : Addr} {fd : FuncData} (F : Fun K "__eq__" "Wire.__eq__" s_Wire_eq f fd) (T : WTop K mg C) (W : WTxt K C) : FnOk P w K mg base CX0 1 f fd ["self", "other"] (spEq K C) := by
  refine F.ok sc_Wire_eq (fun vs H Q E h => ?_) (fun cdv A outer s H vs Q E hr h => ?_)
  · obtain ⟨a, im, y, rfl, _⟩ := h; rfl
  · obtain ⟨a, im, y, rfl, ⟨l, ⟨dx, h1⟩, h2⟩, h⟩ := h
    have hu2 : (A.deeper (envOfC "Wire.__eq__" (defScope s_Wire_eq) s.heap.objs.size f cdv)).units + 64 < cLine := by have := hr.un; omega
    refine ⟨_, (pss_one (ps_ret (pe_and (pe_callB call_isi (by rfl) T.isinstance (by decide +kernel) (pa_cons (pv 1) (pa_cons (pe_glob (v := .ref _) rfl T.g_Wire rfl) pa_nil))) (pe_one (pe_cmpR (op_eqD hu2) (pe_fld (pv 0) rfl) (pe_fld (pv 1) rfl) (nomark _)))))), ?_⟩
    rcases h with ⟨b, jm, rfl, ⟨l', ⟨dx', h1'⟩, h2'⟩, q⟩ | ⟨t, ty, kt, q⟩
    · refine ⟨_, rfl, .ref b, .ref C, .ref C, .ref C, true, rfl, .own C, .base (.ins h1' T.cl T.cla T.hget T.htk T.hmro), kit_self, true, rfl, iteT ?_⟩
      refine ⟨_, rfl, a, C, dx, _, _, rfl, h1, W.cl, W.nI, wF_im _ _, _, rfl, b, C, dx', _, _, rfl, h1', W.cl, W.nI, wF_im _ _, _, _, dpI (SqL.of h2), dpI (SqL.of h2'), shI _, shI _, ?_⟩
      rw [eqI]
      exact q H (Same.refl _)
    · exact ⟨_, rfl, y, .ref C, t, .ref C, false, rfl, .own C, ty, kt, false, rfl, iteF (q H (Same.refl _))⟩
abbrev s_Wire_str : Stmt := inClass (top 11) 14
theorem sc_Wire_str : FnScope ["self"] ["self"] (defScope s_Wire_str) := ⟨rfl, rfl, rfl, by decide +kernel, rfl, by decide +kernel, by decide +kernel⟩

def txW (im : List Nat) : Str := ((Str.empty ++ txN im.length) ++ (" " : Str)) ++ txA (rings (ap im) im.length)
def spStr (C : Addr) : Sp := fun vs H Q _ => ∃ (a : Addr) (im : List Nat), vs = [.ref a] ∧ WireAt C H a im ∧ IsPerm im ∧ im.length ≤ 60 ∧ ∀ H' : Hp, Same H H' → Q (.str (txW im)) H'
theorem ok_Wire_str {f : Addr} {fd : FuncData} (F : Fun K "__str__" "Wire.__str__" s_Wire_str f fd) (T : BltC K mg C) (W : WTxt K C) (D_Wire_rings : MethOk P w K mg base CX0 2 C "rings" ["self"] [] (spWRings C)) (D_rings_text : DefOk P w K mg base CX0 1 "rings_text" ["rings"] [] (spText K)) :
    FnOk P w K mg base CX0 3 f fd ["self"] (spStr C) := by
  refine F.ok sc_Wire_str (fun vs H Q E h => ?_) (fun cdv A outer s H vs Q E hr h => ?_)
  · obtain ⟨a, im, rfl, _⟩ := h; rfl
  · obtain ⟨a, im, rfl, hW, hI, hn, q⟩ := h
    have P := hI.perm
    obtain ⟨l, ⟨dx, h1⟩, h2⟩ := id hW
    refine ⟨_, (pss_one (ps_ret (pe_joined (.cons (pe_fmt (pe_fld (pv 0) rfl)) (.cons pe_str (.cons (pe_fmt (pe_d D_rings_text hr pass0 (pa_cons (pe_m0 D_Wire_rings T.cl hr pass0 (pv 0)) pa_nil))) .nil)))))), ?_⟩
    have l1 := txN_len (n := im.length) (by omega)
    have xl : ∀ x ∈ (rings (ap im) im.length).flatten, x < 1000 := fun x hx => Nat.lt_of_lt_of_le (rings_lt P hx) (by omega)
    have tot := rings_total P
    have rl := ringsTo_len (ap im) im.length im.length
    have l2 : (txA (rings (ap im) im.length)).length ≤ 10000 := txA_len xl (by omega) (by show (ringsTo _ _ _).length ≤ _; omega)
    have l0 : Str.empty.length = 0 := rfl
    have l3 : ((" " : Str)).length = 1 := by decide +kernel
    refine ⟨_, rfl, a, C, dx, _, _, rfl, h1, W.cl, W.nS, wF_size _ _, .inr ⟨(im.length : Int), rfl, ?_, _, rfl, ?_, _, rfl, ?_, ?_⟩⟩
    · rw [Int.natAbs_natCast]
      exact Nat.lt_of_le_of_lt (Nat.log2_le_self _) (by omega)
    · rw [app_len, l0, sizeLine_eq]
      have : (Str.ofString (toString (im.length : Int))).length ≤ 4 := l1
      omega
    · rw [app_len, app_len, l0, l3, sizeLine_eq]
      have : (Str.ofString (toString (im.length : Int))).length ≤ 4 := l1
      omega
    refine ⟨_, rfl, a, dx, _, rfl, h1, wF_no _ _ (by decide +kernel) (by decide +kernel), a, im, rfl, hW, hI, hn, fun o as H1 s1 no nas hoa hnd ho hg => ?_⟩
    refine ⟨o, as, _, rfl, SqL.of ho, hg, xl, by omega, by show (ringsTo _ _ _).length ≤ _; omega, fun H2 s2 => .inl ⟨_, rfl, by rw [sizeLine_eq]; omega, _, rfl, ?_, q H2 (s1.trans s2)⟩⟩
    rw [app_len, app_len, app_len, l0, l3, sizeLine_eq]
    have : (Str.ofString (toString (im.length : Int))).length ≤ 4 := l1
    omega
end
/-! ### texts as lists of signs -/
def cs (s : Str) : List Nat := s.cps.toList
theorem cs_inj {a b : Str} (h : cs a = cs b) : a = b := Str.ext' (Array.toList_inj.mp h)
theorem cs_app (a b : Str) : cs (a ++ b) = cs a ++ cs b := by
  unfold cs
  rw [Str.cps_append, Array.toList_append]
theorem cs_len (a : Str) : (cs a).length = a.length := rfl
theorem cs_one (c : Nat) : cs ⟨#[c]⟩ = [c] := rfl
theorem cs_empty : cs Str.empty = [] := rfl
/-- parts with a sign between them -/
def jn (sep : List Nat) : List (List Nat) → List Nat
  | [] => []
  | [p] => p
  | p :: q :: r => p ++ sep ++ jn sep (q :: r)
theorem cs_join (sep : Str) : ∀ ws : List Str, cs (Str.join sep ws) = jn (cs sep) (ws.map cs)
  | [] => rfl
  | [p] => rfl
  | p :: q :: r => by
    show cs (p ++ sep ++ Str.join sep (q :: r)) = cs p ++ cs sep ++ jn (cs sep) ((q :: r).map cs)
    rw [cs_app, cs_app, cs_join sep (q :: r)]
theorem cs_tjoin (sep : Str) (ws : List Str) : cs (Txt.join sep ws) = jn (cs sep) (ws.map cs) := by
  show cs (Builtin.Str.glued sep ws) = _
  rw [StrLaws.glued_eq_join]
  exact cs_join sep ws
/-- where the sign c comes first, the parts ahead of it are one -/
theorem cut_first {c : Nat} {p q a b : List Nat} (hp : c ∉ p) (hq : c ∉ q) (h : p ++ c :: a = q ++ c :: b) : p = q ∧ a = b := by
  induction p generalizing q with
  | nil =>
    cases q with
    | nil => exact ⟨rfl, (List.cons.inj h).2⟩
    | cons y q => exact absurd ((List.cons.inj h).1 ▸ List.mem_cons_self) hq
  | cons x p ih =>
    cases q with
    | nil => exact absurd ((List.cons.inj h).1 ▸ List.mem_cons_self) hp
    | cons y q =>
      obtain ⟨e1, e2⟩ := List.cons.inj h
      obtain ⟨e3, e4⟩ := ih (fun m => hp (List.mem_cons_of_mem _ m)) (fun m => hq (List.mem_cons_of_mem _ m)) e2
      exact ⟨by rw [e1, e3], e4⟩
theorem cut_none {c : Nat} {p q b : List Nat} (hp : c ∉ p) (h : p = q ++ c :: b) : False := hp (h ▸ List.mem_append_right _ List.mem_cons_self)
/-- parts without the separator's first sign are told by their join -/
theorem jn_inj {c : Nat} {sep : List Nat} : ∀ {ps qs : List (List Nat)}, ps ≠ [] → qs ≠ [] → (∀ p ∈ ps, c ∉ p) → (∀ q ∈ qs, c ∉ q) → jn (c :: sep) ps = jn (c :: sep) qs → ps = qs
  | [], _, h, _, _, _, _ => absurd rfl h
  | _ :: _, [], _, h, _, _, _ => absurd rfl h
  | [p], [q], _, _, _, _, h => by rw [show p = q from h]
  | [p], q :: q2 :: qs, _, _, hp, _, h => (cut_none (hp p List.mem_cons_self) (show p = q ++ c :: (sep ++ jn (c :: sep) (q2 :: qs)) by
      have e : p = q ++ (c :: sep) ++ jn (c :: sep) (q2 :: qs) := h
      rw [e, List.append_assoc]; rfl)).elim
  | p :: p2 :: ps, [q], _, _, _, hq, h => (cut_none (hq q List.mem_cons_self) (show q = p ++ c :: (sep ++ jn (c :: sep) (p2 :: ps)) by
      have e : p ++ (c :: sep) ++ jn (c :: sep) (p2 :: ps) = q := h
      rw [← e, List.append_assoc]; rfl)).elim
  | p :: p2 :: ps, q :: q2 :: qs, _, _, hp, hq, h => by
    have e : p ++ (c :: sep) ++ jn (c :: sep) (p2 :: ps) = q ++ (c :: sep) ++ jn (c :: sep) (q2 :: qs) := h
    rw [List.append_assoc, List.append_assoc, List.cons_append, List.cons_append] at e
    obtain ⟨e1, e2⟩ := cut_first (hp p List.mem_cons_self) (hq q List.mem_cons_self) e
    have e3 := jn_inj (ps := p2 :: ps) (qs := q2 :: qs) (by simp) (by simp) (fun x hx => hp x (List.mem_cons_of_mem _ hx)) (fun x hx => hq x (List.mem_cons_of_mem _ hx)) (List.append_cancel_left e2)
    rw [e1, e3]
theorem map_cs_inj : ∀ {a b : List Str}, a.map cs = b.map cs → a = b
  | [], [], _ => rfl
  | [], _ :: _, h => by cases h
  | _ :: _, [], h => by cases h
  | x :: a, y :: b, h => by
    obtain ⟨e1, e2⟩ := List.cons.inj h
    rw [cs_inj e1, map_cs_inj e2]
theorem split_ne (x y : Str) : Txt.split x y ≠ [] := by
  unfold Txt.split
  split
  · simp
  · split
    · simp
    · rw [StrLaws.partsBetween_eq]
      obtain ⟨p, r, e⟩ := StrLaws.partsFrom_ne x y.length 0 (Builtin.Str.occurrences x y 0 x.length (x.length + 1))
      rw [e]
      simp
/-- splitting at one sign undoes joining by it -/
theorem split_one {c : Nat} {ws : List Str} (hn : ws ≠ []) (h : ∀ w ∈ ws, c ∉ cs w) {x : Str} (hx : cs x = jn [c] (ws.map cs)) : Txt.split x ⟨#[c]⟩ = ws := by
  have j := StrLaws.join_split x ⟨#[c]⟩
  have f := StrLaws.split_free x c
  refine map_cs_inj (jn_inj (c := c) (sep := []) (by simp [split_ne]) (by simp [hn]) ?_ ?_ ?_)
  · intro p hp
    obtain ⟨w, hw, rfl⟩ := List.mem_map.mp hp
    exact f w hw
  · intro p hp
    obtain ⟨w, hw, rfl⟩ := List.mem_map.mp hp
    exact h w hw
  · rw [← hx]
    have := congrArg cs j
    rw [cs_join] at this
    exact this
/-! ### splitting at two signs of which the first one always stands ahead of the second -/
def Fol (a b : Nat) (l : List Nat) : Prop := ∀ k, l[k]? = some a → l[k + 1]? = some b
open Builtin Builtin.Str in
theorem at_two {x : Str} {a b k : Nat} (h1 : (cs x)[k]? = some a) (h2 : (cs x)[k + 1]? = some b) : StrLaws.At x ⟨#[a, b]⟩ x.length k := by
  have l2 := (List.getElem?_eq_some_iff.mp h2).1
  rw [cs_len] at l2
  refine ⟨by show k + 2 ≤ _; omega, ?_⟩
  rw [StrLaws.subAt_eq]
  have e : ((cs x).drop k).take 2 = [a, b] := by
    apply List.ext_getElem?
    intro i
    match i with
    | 0 => rw [List.getElem?_take_of_lt (by omega), List.getElem?_drop]; simpa using h1
    | 1 => rw [List.getElem?_take_of_lt (by omega), List.getElem?_drop]; simpa using h2
    | i + 2 =>
      rw [List.getElem?_eq_none (by rw [List.length_take]; omega)]
      rfl
  exact beq_iff_eq.mpr e
open Builtin Builtin.Str in
theorem parts_two {x : Str} {a b : Nat} (F : Fol a b (cs x)) : ∀ (cuts : List Nat) (i f : Nat), StrLaws.ChainG x ⟨#[a, b]⟩ x.length i cuts f → (∀ k, f ≤ k → ¬ StrLaws.At x ⟨#[a, b]⟩ x.length k) → ∀ p ∈ StrLaws.partsFrom x (⟨#[a, b]⟩ : Str).length i cuts, a ∉ cs p := by
  have gap : ∀ i j, (∀ k, i ≤ k → k < j → ¬ StrLaws.At x ⟨#[a, b]⟩ x.length k) → a ∉ cs (strSub x i j) := by
    intro i j hn hm
    have e : cs (strSub x i j) = ((cs x).drop i).take (j - i) := StrLaws.strSub_toList x i j
    rw [e] at hm
    obtain ⟨k, hk⟩ := List.getElem?_of_mem hm
    have lk : k < j - i := by
      have := (List.getElem?_eq_some_iff.mp hk).1
      rw [List.length_take] at this
      omega
    rw [List.getElem?_take_of_lt lk, List.getElem?_drop] at hk
    exact hn (i + k) (by omega) (by omega) (at_two hk (F _ hk))
  intro cuts
  induction cuts with
  | nil =>
    intro i f h hn p hp
    have e : f = i := h
    subst e
    rw [List.mem_singleton.mp hp]
    exact gap f x.length fun k h1 _ => hn k h1
  | cons d r ih =>
    intro i f h hn p hp
    rcases List.mem_cons.mp hp with rfl | hp'
    · exact gap i d h.2.2.1
    · exact ih _ f h.2.2.2 hn p hp'
open Builtin Builtin.Str in
theorem split_two_free {x : Str} {a b : Nat} (hb : a < 256 ∧ b < 256) (F : Fol a b (cs x)) : ∀ p ∈ Txt.split x ⟨#[a, b]⟩, a ∉ cs p := by
  have none_ : (∀ k, ¬ StrLaws.At x ⟨#[a, b]⟩ x.length k) → a ∉ cs x := fun hn hm => by
    obtain ⟨k, hk⟩ := List.getElem?_of_mem hm
    exact hn k (at_two hk (F k hk))
  obtain ⟨f, hc, hn⟩ := StrLaws.occ_tight x ⟨#[a, b]⟩ (by show 1 ≤ 2; omega)
  intro p hp
  unfold Txt.split at hp
  split at hp
  · rename_i h
    rw [List.mem_singleton.mp hp]
    refine none_ fun k hA => ?_
    have l := hA.1
    rcases Bool.or_eq_true_iff.mp h with h | h
    · have := of_decide_eq_true h
      omega
    · have h := of_decide_eq_true h
      have k1 : Str.strKind ⟨#[a, b]⟩ = 1 := by
        unfold Builtin.Str.strKind
        simp [hb.1, hb.2]
      rw [k1] at h
      unfold Builtin.Str.strKind at h
      split at h
      · omega
      · split at h <;> omega
  · split at hp
    · rename_i h
      rw [List.mem_singleton.mp hp]
      have e := List.isEmpty_iff.mp h
      rw [e] at hc
      have e2 : f = 0 := hc
      exact none_ fun k => hn k (by omega)
    · rw [StrLaws.partsBetween_eq] at hp
      exact parts_two F _ 0 f hc hn p hp
theorem split_two {a b : Nat} (hb : a < 256 ∧ b < 256) {ws : List Str} (hn : ws ≠ []) (h : ∀ w ∈ ws, a ∉ cs w) {x : Str} (hx : cs x = jn [a, b] (ws.map cs)) (F : Fol a b (cs x)) : Txt.split x ⟨#[a, b]⟩ = ws := by
  have j := StrLaws.join_split x ⟨#[a, b]⟩
  have f := split_two_free hb F
  refine map_cs_inj (jn_inj (c := a) (sep := [b]) (by simp [split_ne]) (by simp [hn]) ?_ ?_ ?_)
  · intro p hp
    obtain ⟨w, hw, rfl⟩ := List.mem_map.mp hp
    exact f w hw
  · intro p hp
    obtain ⟨w, hw, rfl⟩ := List.mem_map.mp hp
    exact h w hw
  · rw [← hx]
    have := congrArg cs j
    rw [cs_join] at this
    exact this
theorem fol_jn {a b : Nat} (hab : a ≠ b) : ∀ {ps : List (List Nat)}, (∀ p ∈ ps, a ∉ p) → Fol a b (jn [a, b] ps)
  | [], _, k, h => by cases h
  | [p], hp, k, h => absurd (List.mem_of_getElem? h) (hp p List.mem_cons_self)
  | p :: q :: r, hp, k, h => by
    have ih := fol_jn hab (ps := q :: r) fun x hx => hp x (List.mem_cons_of_mem _ hx)
    have e : jn [a, b] (p :: q :: r) = p ++ ([a, b] ++ jn [a, b] (q :: r)) := by
      show p ++ [a, b] ++ _ = _
      rw [List.append_assoc]
    rw [e] at h ⊢
    by_cases c1 : k < p.length
    · rw [List.getElem?_append_left c1] at h
      exact absurd (List.mem_of_getElem? h) (hp p List.mem_cons_self)
    · rw [List.getElem?_append_right (by omega)] at h
      rw [List.getElem?_append_right (by omega), show k + 1 - p.length = (k - p.length) + 1 by omega]
      match k - p.length, h with
      | 0, _ => rfl
      | 1, h => exact absurd (Option.some.inj h).symm hab
      | j + 2, h => exact ih j h
/-! ### numbers below 1000 as texts -/
def dgs (n : Nat) : List Nat := if n < 10 then [48 + n] else if n < 100 then [48 + n / 10, 48 + n % 10] else [48 + n / 100, 48 + n / 10 % 10, 48 + n % 10]
theorem dgs_all : ∀ n, n < 1000 → cs (txN n) = dgs n := by
  decide +kernel
theorem intText_all {n : Nat} (h : n < 1000) : PySem.intText? (txN n) = some (n : Int) := PySem.W.KIN.num_reads (by omega) (by omega)
/-- is_number, as the program asks it -/
def numS (w : Str) : Bool := Txt.isascii w && (Txt.isdigit w && ((w == ("0" : Str)) || !Txt.startswith w "0"))
theorem numS_all : ∀ n, n < 1000 → numS (txN n) = true := by
  decide +kernel
theorem dig_all : ∀ c, c < 128 → (Unicode.isDigit c = true ↔ 48 ≤ c ∧ c ≤ 57) := by
  decide +kernel
theorem numS_dig {w : Str} (h : numS w = true) : cs w ≠ [] ∧ ∀ c ∈ cs w, 48 ≤ c ∧ c ≤ 57 := by
  unfold numS at h
  obtain ⟨h1, h2⟩ := Bool.and_eq_true_iff.mp h
  obtain ⟨h2, _⟩ := Bool.and_eq_true_iff.mp h2
  obtain ⟨h3, h4⟩ := Bool.and_eq_true_iff.mp h2
  have h3 : 0 < w.length := of_decide_eq_true h3
  refine ⟨fun e => ?_, fun c hc => ?_⟩
  · have := congrArg List.length e
    rw [cs_len] at this
    simp at this
    omega
  · have a := Array.all_eq_true_iff_forall_mem.mp h1 c (Array.mem_toList_iff.mp hc)
    have b := Array.all_eq_true_iff_forall_mem.mp h4 c (Array.mem_toList_iff.mp hc)
    exact (dig_all c (of_decide_eq_true a)).mp b
theorem numS_lead {w : Str} (h : numS w = true) {c : Nat} {r : List Nat} (e : cs w = c :: r) : c ≠ 48 ∨ r = [] := by
  by_cases c0 : c = 48
  · subst c0
    right
    unfold numS at h
    obtain ⟨_, h2⟩ := Bool.and_eq_true_iff.mp h
    obtain ⟨_, h2⟩ := Bool.and_eq_true_iff.mp h2
    rcases Bool.or_eq_true_iff.mp h2 with z | z
    · have ew : w = ("0" : Str) := beq_iff_eq.mp z
      have : cs ("0" : Str) = [48] := by decide +kernel
      rw [ew, this] at e
      exact (List.cons.inj e).2.symm
    · exfalso
      have : Txt.startswith w "0" = true := by
        unfold Txt.startswith
        have l : ("0" : Str).length = 1 := by decide +kernel
        have lw : w.length = r.length + 1 := by rw [← cs_len, e]; rfl
        rw [l, StrLaws.subAt_eq, l]
        have e0 : ("0" : Str).cps.toList = [48] := by decide +kernel
        have ew : w.cps.toList = 48 :: r := e
        rw [ew, e0]
        simp [lw]
      rw [this] at z
      cases z
  · exact .inl c0
/-- digits, at most three, without a leading zero -/
theorem txN_of {l : List Nat} (h0 : l ≠ []) (hd : ∀ c ∈ l, 48 ≤ c ∧ c ≤ 57) (hz : ∀ c r, l = c :: r → c ≠ 48 ∨ r = []) (h3 : l.length ≤ 3) : ∃ n, n < 1000 ∧ l = dgs n := by
  match l, h0, hd, hz, h3 with
  | [a], _, hd, _, _ =>
    have ha := hd a (by simp)
    refine ⟨a - 48, by omega, ?_⟩
    unfold dgs
    rw [if_pos (by omega)]
    congr 1
    omega
  | [a, b], _, hd, hz, _ =>
    have ha := hd a (by simp)
    have hb := hd b (by simp)
    have hn : a ≠ 48 := (hz a [b] rfl).resolve_right (by simp)
    refine ⟨(a - 48) * 10 + (b - 48), by omega, ?_⟩
    unfold dgs
    rw [if_neg (by omega), if_pos (by omega)]
    congr 1
    · omega
    · congr 1
      omega
  | [a, b, c], _, hd, hz, _ =>
    have ha := hd a (by simp)
    have hb := hd b (by simp)
    have hc := hd c (by simp)
    have hn : a ≠ 48 := (hz a [b, c] rfl).resolve_right (by simp)
    refine ⟨(a - 48) * 100 + (b - 48) * 10 + (c - 48), by omega, ?_⟩
    unfold dgs
    rw [if_neg (by omega), if_neg (by omega)]
    congr 1
    · omega
    · congr 1
      · omega
      · congr 1
        omega
def isN (w : Str) : Prop := ∃ n, n < 1000 ∧ w = txN n
theorem isN_of {w : Str} (h0 : cs w ≠ []) (hd : ∀ c ∈ cs w, 48 ≤ c ∧ c ≤ 57) (hz : ∀ c r, cs w = c :: r → c ≠ 48 ∨ r = []) (h3 : w.length ≤ 3) : isN w := by
  obtain ⟨n, hn, e⟩ := txN_of h0 hd hz h3
  exact ⟨n, hn, cs_inj (by rw [e, dgs_all n hn])⟩
theorem numS_isN {w : Str} (h : numS w = true) (h3 : w.length ≤ 3) : isN w := isN_of (numS_dig h).1 (numS_dig h).2 (fun c r e => numS_lead h e) h3
theorem dgs_len (n : Nat) : (dgs n).length ≤ 3 ∧ (dgs n).length = if n < 10 then 1 else if n < 100 then 2 else 3 := by
  unfold dgs
  split
  · simp
  · split <;> simp
theorem dgs_dig {n : Nat} (h : n < 1000) : ∀ c ∈ dgs n, 48 ≤ c ∧ c ≤ 57 := by
  intro c hc
  unfold dgs at hc
  split at hc
  · simp at hc; omega
  · split at hc
    · simp at hc; omega
    · simp at hc; omega
theorem dgs_ne (n : Nat) : dgs n ≠ [] := by
  unfold dgs
  split
  · simp
  · split <;> simp
theorem dgs_inj {n m : Nat} (hn : n < 1000) (hm : m < 1000) (e : dgs n = dgs m) : n = m := by
  have l := congrArg List.length e
  rw [(dgs_len n).2, (dgs_len m).2] at l
  unfold dgs at e
  split at e <;> split at e <;> (try split at e) <;> (try split at e) <;> simp_all <;> omega
theorem txN_inj {n m : Nat} (hn : n < 1000) (hm : m < 1000) (e : txN n = txN m) : n = m := dgs_inj hn hm (by rw [← dgs_all n hn, ← dgs_all m hm, e])
theorem txN_length {n : Nat} (h : n < 1000) : (txN n).length = if n < 10 then 1 else if n < 100 then 2 else 3 := by
  rw [← cs_len, dgs_all n h]
  exact (dgs_len n).2
/-! ### the text of rings, taken apart -/
theorem cs_comma : cs ("," : Str) = [44] := by decide +kernel
theorem cs_open : cs ("(" : Str) = [40] := by decide +kernel
theorem cs_close : cs (")" : Str) = [41] := by decide +kernel
theorem cs_both : cs ("()" : Str) = [40, 41] := by decide +kernel
theorem cs_cut : cs (")(" : Str) = [41, 40] := by decide +kernel
theorem cs_blank : cs (" " : Str) = [32] := by decide +kernel
theorem s_comma : ("," : Str) = ⟨#[44]⟩ := cs_inj cs_comma
theorem s_cut : (")(" : Str) = ⟨#[41, 40]⟩ := cs_inj cs_cut
theorem s_blank : (" " : Str) = ⟨#[32]⟩ := cs_inj cs_blank
def bod (r : List Nat) : List Nat := jn [44] (r.map fun x => cs (txN x))
theorem cs_txR (r : List Nat) : cs (txR r) = 40 :: (bod r ++ [41]) := by
  unfold txR bod
  rw [cs_app, cs_app, cs_open, cs_close, cs_tjoin, cs_comma, List.map_map]
  rfl
theorem jn_nil : ∀ ps : List (List Nat), jn [] ps = ps.flatten
  | [] => rfl
  | [p] => by simp [jn]
  | p :: q :: r => by
    show p ++ [] ++ jn [] (q :: r) = _
    rw [jn_nil (q :: r), List.append_nil]
    rfl
theorem cs_txJ (rs : List (List Nat)) : cs (txJ rs) = (rs.map fun r => 40 :: (bod r ++ [41])).flatten := by
  unfold txJ
  rw [cs_tjoin, show cs ("" : Str) = [] by decide +kernel, jn_nil, List.map_map]
  congr 1
  exact List.map_congr_left fun r _ => cs_txR r
theorem bod_cut : ∀ {rs : List (List Nat)}, rs ≠ [] → (rs.map fun r => 40 :: (bod r ++ [41])).flatten = 40 :: (jn [41, 40] (rs.map bod) ++ [41])
  | [], h => absurd rfl h
  | [r], _ => by simp [jn]
  | r :: q :: rs, _ => by
    have ih := bod_cut (rs := q :: rs) (by simp)
    rw [List.map_cons, List.flatten_cons, ih]
    show 40 :: (bod r ++ [41]) ++ _ = 40 :: (bod r ++ [41, 40] ++ jn [41, 40] ((q :: rs).map bod) ++ [41])
    simp
theorem cs_txA {rs : List (List Nat)} (h : rs ≠ []) : cs (txA rs) = 40 :: (jn [41, 40] (rs.map bod) ++ [41]) := by
  have e := cs_txJ rs
  rw [bod_cut h] at e
  have n : (txJ rs).length ≠ 0 := by
    rw [← cs_len, e]
    simp
  unfold txA
  rw [if_neg n]
  exact e
theorem txA_nil : txA [] = ("()" : Str) := by decide +kernel
theorem jn_mem {sep : List Nat} {c : Nat} : ∀ {ps : List (List Nat)}, c ∈ jn sep ps → c ∈ sep ∨ ∃ p ∈ ps, c ∈ p
  | [], h => by cases h
  | [p], h => .inr ⟨p, List.mem_cons_self, h⟩
  | p :: q :: r, h => by
    have h : c ∈ p ++ sep ++ jn sep (q :: r) := h
    rcases List.mem_append.mp h with h | h
    · rcases List.mem_append.mp h with h | h
      · exact .inr ⟨p, List.mem_cons_self, h⟩
      · exact .inl h
    · rcases jn_mem h with h | ⟨x, hx, h⟩
      · exact .inl h
      · exact .inr ⟨x, List.mem_cons_of_mem _ hx, h⟩
theorem bod_sign {r : List Nat} (h : ∀ x ∈ r, x < 1000) {c : Nat} (hc : c ∈ bod r) : c = 44 ∨ 48 ≤ c ∧ c ≤ 57 := by
  rcases jn_mem hc with h1 | ⟨p, hp, h1⟩
  · exact .inl (List.mem_singleton.mp h1)
  · obtain ⟨x, hx, rfl⟩ := List.mem_map.mp hp
    rw [dgs_all x (h x hx)] at h1
    exact .inr (dgs_dig (h x hx) c h1)
/-- the inner signs of a text -/
def inn (r : Str) : Str := cutS r (some 1) (some (-1))
theorem cs_inn {r : Str} {a b : Nat} {l : List Nat} (h : cs r = a :: (l ++ [b])) : cs (inn r) = l := by
  have len : r.length = l.length + 2 := by rw [← cs_len, h]; simp
  have e : cs (inn r) = ((cs r).drop (HT.sIx r.length 0 (some 1))).take (HT.sIx r.length r.length (some (-1)) - HT.sIx r.length 0 (some 1)) := rfl
  have e1 : HT.sIx r.length 0 (some 1) = 1 := by
    have := HT.sIx_nat r.length 0 1
    have e2 : HT.sIx r.length 0 (some 1) = min 1 r.length := this
    rw [e2]
    omega
  have e2 : HT.sIx r.length r.length (some (-1)) = r.length - 1 := by
    unfold HT.sIx
    simp
    omega
  rw [e, e1, e2, h, len]
  simp
/-- the words of a text of rings -/
def wordsOf (r : Str) : List (List Str) := (Txt.split (inn r) ")(").map fun b => Txt.split b ","
theorem words_txA {rs : List (List Nat)} (h : rs ≠ []) (hn : ∀ r ∈ rs, r ≠ []) (hx : ∀ x ∈ rs.flatten, x < 1000) : wordsOf (txA rs) = rs.map fun r => r.map txN := by
  have ci := cs_inn (cs_txA h)
  have hx' : ∀ r ∈ rs, ∀ x ∈ r, x < 1000 := fun r hr x hm => hx x (List.mem_flatten.mpr ⟨r, hr, hm⟩)
  have clean : ∀ p ∈ rs.map bod, 41 ∉ p := by
    intro p hp hm
    obtain ⟨r, hr, rfl⟩ := List.mem_map.mp hp
    rcases bod_sign (hx' r hr) hm with e | ⟨e, _⟩
    · cases e
    · omega
  have ew : (rs.map fun r => (⟨(bod r).toArray⟩ : Str)).map cs = rs.map bod := by
    rw [List.map_map]
    rfl
  have e1 : Txt.split (inn (txA rs)) ")(" = rs.map fun r => (⟨(bod r).toArray⟩ : Str) := by
    rw [s_cut]
    refine split_two (a := 41) (b := 40) (by omega) (by simp [h]) ?_ (by rw [ci, ew]) (by rw [ci]; exact fol_jn (by omega) clean)
    intro w hw
    obtain ⟨r, hr, rfl⟩ := List.mem_map.mp hw
    exact clean _ (List.mem_map.mpr ⟨r, hr, rfl⟩)
  unfold wordsOf
  rw [e1, List.map_map]
  refine List.map_congr_left fun r hr => ?_
  show Txt.split ⟨(bod r).toArray⟩ "," = r.map txN
  rw [s_comma]
  refine split_one (by simp [hn r hr]) (fun w hw hm => ?_) ?_
  · obtain ⟨x, hxr, rfl⟩ := List.mem_map.mp hw
    rw [dgs_all x (hx' r hr x hxr)] at hm
    have := dgs_dig (hx' r hr x hxr) 44 hm
    omega
  · show bod r = _
    unfold bod
    rw [List.map_map]
    rfl
/-! ### a text cut at its first blank -/
open Builtin Builtin.Str in
theorem partition_one {t : Str} {c : Nat} {p q : List Nat} (hp : c ∉ p) (h : cs t = p ++ c :: q) : cs (Txt.partition t ⟨#[c]⟩).1 = p ∧ cs (Txt.partition t ⟨#[c]⟩).2.2 = q := by
  have at_ : ∀ i, StrLaws.At t ⟨#[c]⟩ t.length i ↔ (cs t)[i]? = some c := fun i => StrLaws.subAt_one t c i
  have s1 := StrLaws.partition_sum t ⟨#[c]⟩
  rcases StrLaws.occ_head t ⟨#[c]⟩ 1 (Nat.le_refl _) with ⟨_, hn⟩ | ⟨i, r, e, hA, hk⟩
  · exact absurd ((at_ p.length).mpr (by rw [h, List.getElem?_append_right (Nat.le_refl _), Nat.sub_self]; rfl)) (hn _)
  · unfold Txt.partition at s1 ⊢
    rw [e] at s1 ⊢
    have hi := (at_ i).mp hA
    have le : i = p.length := by
      rcases Nat.lt_trichotomy i p.length with l | l | l
      · rw [h, List.getElem?_append_left l] at hi
        exact absurd (List.mem_of_getElem? hi) hp
      · exact l
      · exact absurd ((at_ p.length).mpr (by rw [h, List.getElem?_append_right (Nat.le_refl _), Nat.sub_self]; rfl)) (hk _ l)
    subst le
    have a1 : cs (strSub t 0 p.length) = p := by
      show (strSub t 0 p.length).cps.toList = p
      rw [StrLaws.strSub_toList]
      show ((cs t).drop 0).take (p.length - 0) = p
      rw [h]
      simp
    refine ⟨a1, ?_⟩
    show (strSub t (p.length + 1) t.length).cps.toList = q
    rw [StrLaws.strSub_toList]
    show ((cs t).drop (p.length + 1)).take (t.length - (p.length + 1)) = q
    have len : t.length = p.length + (q.length + 1) := by rw [← cs_len, h]; simp
    rw [h, len]
    have e2 : (p ++ c :: q).drop (p.length + 1) = q := by
      rw [List.drop_append]
      simp
    rw [e2, List.take_of_length_le (by omega)]
open Builtin Builtin.Str in
theorem partition_free (t : Str) (c : Nat) : (c ∉ cs (Txt.partition t ⟨#[c]⟩).1) ∧ ((Txt.partition t ⟨#[c]⟩).2.2 = Str.empty ∨ t = (Txt.partition t ⟨#[c]⟩).1 ++ ⟨#[c]⟩ ++ (Txt.partition t ⟨#[c]⟩).2.2) := by
  have s1 := StrLaws.partition_sum t ⟨#[c]⟩
  have at_ : ∀ i, StrLaws.At t ⟨#[c]⟩ t.length i ↔ (cs t)[i]? = some c := fun i => StrLaws.subAt_one t c i
  unfold Txt.partition at s1 ⊢
  rcases StrLaws.occ_head t ⟨#[c]⟩ 1 (Nat.le_refl _) with ⟨e, hn⟩ | ⟨i, r, e, hA, hk⟩
  · rw [e]
    refine ⟨fun hm => ?_, .inl rfl⟩
    obtain ⟨k, hk⟩ := List.getElem?_of_mem hm
    exact hn k ((at_ k).mpr hk)
  · rw [e] at s1 ⊢
    refine ⟨fun hm => ?_, .inr s1.symm⟩
    have e1 : cs (strSub t 0 i) = ((cs t).drop 0).take (i - 0) := StrLaws.strSub_toList t 0 i
    have hm : c ∈ cs (strSub t 0 i) := hm
    rw [e1] at hm
    obtain ⟨k, hk2⟩ := List.getElem?_of_mem hm
    have lk : k < i := by
      have := (List.getElem?_eq_some_iff.mp hk2).1
      rw [List.length_take] at this
      omega
    rw [List.getElem?_take_of_lt (by omega), List.getElem?_drop, Nat.zero_add] at hk2
    exact hk k lk ((at_ k).mpr hk2)
/-! ### the wire that has given rings -/
theorem ringsOf_inj {im jm : List Nat} {rs : List (List Nat)} (e : im.length = jm.length) (A : RingsOf (ap im) im.length rs) (B : RingsOf (ap jm) jm.length rs) : im = jm := by
  rw [← im_eq im, ← im_eq jm, ← e]
  refine List.map_congr_left fun x hx => ?_
  have hx := List.mem_range.mp hx
  by_cases m : x ∈ rs.flatten
  · obtain ⟨r, hr, hm⟩ := List.mem_flatten.mp m
    have a := follows_iff.mp (A.fol r hr)
    have b := follows_iff.mp (B.fol r hr)
    rw [a] at b
    exact List.map_inj_left.mp b x hm
  · rw [A.stay x hx m, B.stay x (by omega) m]
theorem mem_rot {r : List Nat} {x : Nat} : x ∈ rot r ↔ x ∈ r := by
  unfold rot
  rw [List.mem_append, or_comm, ← List.mem_append, List.take_append_drop]
theorem rot_nodup {r : List Nat} (h : r.Nodup) : (rot r).Nodup := by
  unfold rot
  have : (r.drop 1 ++ r.take 1).Perm r := by
    refine List.perm_append_comm.trans ?_
    rw [List.take_append_drop]
  exact this.nodup_iff.mpr h
def nextIn (im r : List Nat) (x : Nat) : Nat := if x ∈ r then (rot r).getD (r.idxOf x) 0 else ap im x
theorem nextIn_get {im r : List Nat} (h : r.Nodup) {k x : Nat} (hk : r[k]? = some x) : (rot r)[k]? = some (nextIn im r x) := by
  have hx := List.mem_of_getElem? hk
  have kl := (List.getElem?_eq_some_iff.mp hk).1
  have ei : r.idxOf x = k := by
    have e := (List.getElem?_eq_some_iff.mp hk).2
    rw [← e]
    exact h.idxOf_getElem k kl
  unfold nextIn
  rw [if_pos hx, ei, List.getD_eq_getElem?_getD, List.getElem?_eq_getElem (by rw [rot_len]; exact kl)]
  rfl
theorem cyc_step {im r : List Nat} (hI : IsPerm im) (hnd : r.Nodup) (hlt : ∀ x ∈ r, x < im.length) (hfix : ∀ x ∈ r, ap im x = x) : IsPerm ((List.range im.length).map (nextIn im r)) ∧ Follows (nextIn im r) r := by
  have P := hI.perm
  have mem : ∀ x ∈ r, nextIn im r x ∈ r ∧ ∃ k, r[k]? = some x ∧ (rot r)[k]? = some (nextIn im r x) := fun x hx => by
    obtain ⟨k, hk⟩ := List.getElem?_of_mem hx
    have h2 := nextIn_get (im := im) hnd hk
    exact ⟨mem_rot.mp (List.mem_of_getElem? h2), k, hk, h2⟩
  have out : ∀ x, x ∉ r → nextIn im r x = ap im x := fun x hx => by unfold nextIn; rw [if_neg hx]
  have away : ∀ x, x < im.length → x ∉ r → ap im x ∉ r := fun x hx hn hm => by
    have := hfix _ hm
    have := P.inj _ _ (P.lt x hx) hx this
    rw [this] at hm
    exact hn hm
  refine ⟨isPerm_of_graph ⟨fun x hx => ?_, fun x y hx hy e => ?_⟩, ?_⟩
  · by_cases m : x ∈ r
    · exact hlt _ (mem x m).1
    · rw [out x m]
      exact P.lt x hx
  · by_cases m : x ∈ r
    · by_cases m2 : y ∈ r
      · obtain ⟨_, k, a1, a2⟩ := mem x m
        obtain ⟨_, j, b1, b2⟩ := mem y m2
        rw [e] at a2
        obtain ⟨k1, k2⟩ := List.getElem?_eq_some_iff.mp a2
        obtain ⟨j1, j2⟩ := List.getElem?_eq_some_iff.mp b2
        have ekj : k = j := (List.getElem_inj (rot_nodup hnd)).mp (k2.trans j2.symm)
        subst ekj
        rw [a1] at b1
        exact Option.some.inj b1
      · rw [out y m2] at e
        exact absurd (e ▸ (mem x m).1) (away y hy m2)
    · by_cases m2 : y ∈ r
      · rw [out x m] at e
        exact absurd (e ▸ (mem y m2).1) (away x hx m)
      · rw [out x m, out y m2] at e
        exact P.inj x y hx hy e
  · refine follows_iff.mpr (List.ext_getElem? fun k => ?_)
    rw [List.getElem?_map]
    cases e : r[k]? with
    | none =>
      have := List.getElem?_eq_none_iff.mp e
      rw [List.getElem?_eq_none (by rw [rot_len]; exact this)]
      rfl
    | some x => exact nextIn_get hnd e
theorem follows_congr {f g : Nat → Nat} {r : List Nat} (h : ∀ x ∈ r, f x = g x) (F : Follows f r) : Follows g r := by
  refine follows_iff.mpr ((follows_iff.mp F).trans ?_)
  exact List.map_congr_left h
/-- one ring more -/
theorem ringsOf_more1 {im r : List Nat} {rs : List (List Nat)} (hI : IsPerm im) (R : RingsOf (ap im) im.length rs) (hne : r ≠ []) (hnd : r.Nodup) (hlt : ∀ x ∈ r, x < im.length) (hno : ∀ x ∈ r, x ∉ rs.flatten) :
    IsPerm ((List.range im.length).map (nextIn im r)) ∧ RingsOf (ap ((List.range im.length).map (nextIn im r))) im.length (rs ++ [r]) := by
  have hfix : ∀ x ∈ r, ap im x = x := fun x hx => R.stay x (hlt x hx) (hno x hx)
  obtain ⟨J, F⟩ := cyc_step hI hnd hlt hfix
  have fl : (rs ++ [r]).flatten = rs.flatten ++ r := by simp
  refine ⟨J, ⟨fun q hq => ?_, ?_, fun x hx => ?_, fun q hq => ?_, fun x hx hn => ?_⟩⟩
  · rcases List.mem_append.mp hq with h | h
    · exact R.ne q h
    · rw [List.mem_singleton.mp h]; exact hne
  · rw [fl]
    exact List.nodup_append.mpr ⟨R.nd, hnd, fun a ha b hb e => hno b hb (e ▸ ha)⟩
  · rw [fl] at hx
    rcases List.mem_append.mp hx with h | h
    · exact R.lt x h
    · exact hlt x h
  · rcases List.mem_append.mp hq with h | h
    · refine follows_congr (fun x hx => ?_) (R.fol q h)
      have xf : x ∈ rs.flatten := List.mem_flatten.mpr ⟨q, h, hx⟩
      rw [ap_map (R.lt x xf)]
      unfold nextIn
      rw [if_neg fun m => hno x m xf]
    · rw [List.mem_singleton.mp h]
      exact follows_congr (fun x hx => (ap_map (hlt x hx)).symm) F
  · rw [fl] at hn
    rw [ap_map hx]
    unfold nextIn
    rw [if_neg fun m => hn (List.mem_append_right _ m)]
    exact R.stay x hx fun m => hn (List.mem_append_left _ m)
theorem isPerm_range (n : Nat) : IsPerm (List.range n) := ⟨List.nodup_range, fun x h => by rw [List.length_range]; exact List.mem_range.mp h⟩
theorem ap_range {n x : Nat} (h : x < n) : ap (List.range n) x = x := by
  unfold ap
  rw [List.getD_eq_getElem?_getD, List.getElem?_range h]
  rfl
theorem ringsOf_none (n : Nat) : RingsOf (ap (List.range n)) (List.range n).length [] := ⟨(by intro r h; cases h), List.nodup_nil, (by intro x h; cases h), (by intro r h; cases h), fun x hx _ => ap_range (by rw [List.length_range] at hx; exact hx)⟩
theorem take_flat_subN {rs : List (List Nat)} (i : Nat) : ∃ t, rs.flatten = (rs.take i).flatten ++ t := ⟨(rs.drop i).flatten, by rw [← List.flatten_append, List.take_append_drop]⟩
/-- the wire of these rings -/
theorem perm_of_rings {n : Nat} {rs : List (List Nat)} (hne : ∀ r ∈ rs, r ≠ []) (hnd : rs.flatten.Nodup) (hlt : ∀ x ∈ rs.flatten, x < n) : ∃ im, IsPerm im ∧ im.length = n ∧ RingsOf (ap im) n rs := by
  suffices h : ∀ k, k ≤ rs.length → ∃ im, IsPerm im ∧ im.length = n ∧ RingsOf (ap im) n (rs.take k) by
    have := h rs.length (Nat.le_refl _)
    rw [List.take_length] at this
    exact this
  intro k
  induction k with
  | zero =>
    intro _
    have := ringsOf_none n
    rw [List.length_range] at this
    exact ⟨List.range n, isPerm_range n, List.length_range, this⟩
  | succ k ih =>
    intro hk
    obtain ⟨im, hI, hl, R⟩ := ih (by omega)
    subst hl
    obtain ⟨r, hr⟩ : ∃ r, rs[k]? = some r := ⟨_, List.getElem?_eq_getElem (by omega)⟩
    have rm := List.mem_of_getElem? hr
    have tk : rs.take (k + 1) = rs.take k ++ [r] := by rw [List.take_add_one, hr]; rfl
    obtain ⟨t, ht⟩ := take_flat_subN (rs := rs) (k + 1)
    have nd := hnd
    rw [ht, tk, List.flatten_append] at nd
    have nd2 := (List.nodup_append.mp nd).1
    simp only [List.flatten_cons, List.flatten_nil, List.append_nil] at nd2
    have nd3 := List.nodup_append.mp nd2
    obtain ⟨J, R2⟩ := ringsOf_more1 hI R (hne r rm) nd3.2.1 (fun x hx => hlt x (List.mem_flatten.mpr ⟨r, rm, hx⟩)) (fun x hx h => nd3.2.2 x h x hx rfl)
    rw [tk]
    exact ⟨_, J, by rw [List.length_map, List.length_range], R2⟩
/-! ### the text of a wire -/
def Canon (t : Str) (im : List Nat) : Prop := IsPerm im ∧ 1 ≤ im.length ∧ im.length < 1000 ∧ t = txW im
theorem cs_txW (im : List Nat) : cs (txW im) = cs (txN im.length) ++ 32 :: cs (txA (rings (ap im) im.length)) := by
  unfold txW
  rw [cs_app, cs_app, cs_app, cs_empty, cs_blank]
  simp
theorem no_blank {n : Nat} (h : n < 1000) : 32 ∉ cs (txN n) := fun hm => by
  rw [dgs_all n h] at hm
  have := dgs_dig h 32 hm
  omega
theorem Canon.parts {t : Str} {im : List Nat} (C : Canon t im) : (Txt.partition t " ").1 = txN im.length ∧ (Txt.partition t " ").2.2 = txA (rings (ap im) im.length) := by
  obtain ⟨hI, h1, h2, rfl⟩ := C
  rw [s_blank]
  obtain ⟨a, b⟩ := partition_one (no_blank h2) (cs_txW im)
  exact ⟨cs_inj a, cs_inj b⟩
theorem canon_of {t d r : Str} {im : List Nat} (hI : IsPerm im) (h1 : 1 ≤ im.length) (h2 : im.length < 1000) (ht : t = d ++ ⟨#[32]⟩ ++ r) (hd : d = txN im.length) (hr : r = txA (rings (ap im) im.length)) : Canon t im := by
  refine ⟨hI, h1, h2, ?_⟩
  rw [ht, hd, hr]
  unfold txW
  rw [s_blank]
  apply cs_inj
  rw [cs_app, cs_app, cs_app, cs_app, cs_app, cs_empty]
  rfl
theorem bod_ne {r : List Nat} (h0 : r ≠ []) (hx : ∀ x ∈ r, x < 1000) : bod r ≠ [] := by
  unfold bod
  match r, h0 with
  | [x], _ =>
    show cs (txN x) ≠ []
    rw [dgs_all x (hx x (by simp))]
    exact dgs_ne x
  | x :: y :: r, _ =>
    show cs (txN x) ++ [44] ++ _ ≠ []
    simp
theorem txA_both {rs : List (List Nat)} (h : rs ≠ []) (hn : ∀ r ∈ rs, r ≠ []) (hx : ∀ x ∈ rs.flatten, x < 1000) : txA rs ≠ ("()" : Str) := by
  intro e
  have a := cs_txA h
  rw [e, cs_both] at a
  match rs, h with
  | [r], _ =>
    have b : bod r ≠ [] := bod_ne (hn r (by simp)) fun x hm => hx x (by simpa using hm)
    have a : [40, 41] = 40 :: (bod r ++ [41]) := a
    have l := congrArg List.length a
    simp at l
    exact b l
  | r :: q :: rs, _ =>
    have a : [40, 41] = 40 :: ((bod r ++ [41, 40] ++ jn [41, 40] ((q :: rs).map bod)) ++ [41]) := a
    have l := congrArg List.length a
    simp at l
    omega
theorem map_txN_inj : ∀ {r q : List Nat}, (∀ x ∈ r, x < 1000) → (∀ x ∈ q, x < 1000) → r.map txN = q.map txN → r = q
  | [], [], _, _, _ => rfl
  | [], _ :: _, _, _, h => by cases h
  | _ :: _, [], _, _, h => by cases h
  | x :: r, y :: q, h1, h2, h => by
    obtain ⟨a, b⟩ := List.cons.inj h
    rw [txN_inj (h1 x (by simp)) (h2 y (by simp)) a, map_txN_inj (fun z hz => h1 z (List.mem_cons_of_mem _ hz)) (fun z hz => h2 z (List.mem_cons_of_mem _ hz)) b]
theorem map_map_txN_inj : ∀ {rs qs : List (List Nat)}, (∀ x ∈ rs.flatten, x < 1000) → (∀ x ∈ qs.flatten, x < 1000) → rs.map (·.map txN) = qs.map (·.map txN) → rs = qs
  | [], [], _, _, _ => rfl
  | [], _ :: _, _, _, h => by cases h
  | _ :: _, [], _, _, h => by cases h
  | r :: rs, q :: qs, h1, h2, h => by
    obtain ⟨a, b⟩ := List.cons.inj h
    rw [map_txN_inj (fun z hz => h1 z (by simp [hz])) (fun z hz => h2 z (by simp [hz])) a,
      map_map_txN_inj (fun z hz => h1 z (by rw [List.flatten_cons]; exact List.mem_append_right _ hz)) (fun z hz => h2 z (by rw [List.flatten_cons]; exact List.mem_append_right _ hz)) b]
theorem txA_inj {rs qs : List (List Nat)} (n1 : ∀ r ∈ rs, r ≠ []) (n2 : ∀ r ∈ qs, r ≠ []) (x1 : ∀ x ∈ rs.flatten, x < 1000) (x2 : ∀ x ∈ qs.flatten, x < 1000) (h : txA rs = txA qs) : rs = qs := by
  by_cases a : rs = []
  · by_cases b : qs = []
    · rw [a, b]
    · rw [a, txA_nil] at h
      exact absurd h.symm (txA_both b n2 x2)
  · by_cases b : qs = []
    · rw [b, txA_nil] at h
      exact absurd h (txA_both a n1 x1)
    · have e1 := words_txA a n1 x1
      have e2 := words_txA b n2 x2
      rw [h, e2] at e1
      exact (map_map_txN_inj x2 x1 e1).symm
theorem Canon.lt {t : Str} {im : List Nat} (C : Canon t im) : ∀ x ∈ (rings (ap im) im.length).flatten, x < 1000 := fun x hx => Nat.lt_trans (rings_lt C.1.perm hx) C.2.2.1
theorem Canon.inj {t : Str} {im jm : List Nat} (C : Canon t im) (D : Canon t jm) : im = jm := by
  have e := txN_inj C.2.2.1 D.2.2.1 (C.parts.1.symm.trans D.parts.1)
  have r := txA_inj (fun r h => rings_ne C.1.perm h) (fun r h => rings_ne D.1.perm h) C.lt D.lt (C.parts.2.symm.trans D.parts.2)
  have a := ringsOf_perm C.1.perm
  have b := ringsOf_perm D.1.perm
  rw [r] at a
  exact ringsOf_inj e a b
section
variable {P : Program} {w : World} {K : PySem.W.Frag} {mg : Str → Option Value} {base : Heap}
/-! ### is_number -/
abbrev s_is_number : Stmt := top 18
theorem sc_is_number : FnScope ["text"] ["text"] (defScope s_is_number) := ⟨rfl, rfl, rfl, by decide +kernel, rfl, by decide +kernel, by decide +kernel⟩

def spIsNum : Sp := fun vs H Q _ => ∃ x : Str, vs = [.str x] ∧ Q (.bl (numS x)) H
theorem ok_is_number {f : Addr} {fd : FuncData} (F : Fun K "is_number" "is_number" s_is_number f fd) : FnOk P w K mg base CX0 1 f fd ["text"] spIsNum := by
  refine F.ok sc_is_number (fun vs H Q E h => ?_) (fun cdv A outer s H vs Q E hr h => ?_)
  · obtain ⟨x, rfl, _⟩ := h; rfl
  · obtain ⟨x, rfl, q⟩ := h
    refine ⟨_, (pss_one (ps_ret (pe_and (L2.pe_m0 PySem.F.slot_str_isascii PySem.F.type_str_isascii mt_isascii (pv 0)) (pe_and (L2.pe_m0 PySem.F.slot_str_isdigit PySem.F.type_str_isdigit mt_isdigit (pv 0)) (pe_one (pe_or (pe_cmpR op_eq (pv 0) pe_str (nomark _)) (pe_one (pe_not (L2.pe_m1 PySem.F.slot_str_startswith PySem.F.type_str_startswith mt_startswith (pv 0) pe_str))))))))), ?_⟩
    refine ⟨_, rfl, ⟨_, rfl⟩, x, rfl, rfl, trivial, _, rfl, ?_⟩
    cases e1 : Txt.isascii x with
    | false =>
      refine iteF ?_
      have : numS x = false := by unfold numS; rw [e1]; rfl
      rw [this] at q
      exact q
    | true =>
      refine iteT ⟨_, rfl, ⟨_, rfl⟩, x, rfl, rfl, trivial, _, rfl, ?_⟩
      cases e2 : Txt.isdigit x with
      | false =>
        refine iteF ?_
        have : numS x = false := by unfold numS; rw [e1, e2]; rfl
        rw [this] at q
        exact q
      | true =>
        refine iteT ⟨_, rfl, rfl, _, rfl, ?_⟩
        have e3 : decide (V.str x = V.str "0") = (x == ("0" : Str)) := by
          rw [Bool.eq_iff_iff, decide_eq_true_iff, beq_iff_eq]
          exact ⟨fun h => V.str.inj h, fun h => by rw [h]⟩
        rw [e3]
        cases e4 : (x == ("0" : Str)) with
        | true =>
          refine iteT ?_
          have : numS x = true := by unfold numS; rw [e1, e2, e4]; rfl
          rw [this] at q
          exact q
        | false =>
          refine iteF ⟨_, rfl, ⟨_, rfl⟩, x, "0", rfl, rfl, _, rfl, ?_⟩
          have : numS x = !Txt.startswith x "0" := by unfold numS; rw [e1, e2, e4]; rfl
          rw [this] at q
          exact q
end
/-! ### how many words there are -/
theorem jn_len1 {c : Nat} : ∀ {ps : List (List Nat)}, ps ≠ [] → (ps.map List.length).sum + ps.length = (jn [c] ps).length + 1
  | [], h => absurd rfl h
  | [p], _ => by simp [jn]
  | p :: q :: r, _ => by
    have ih := jn_len1 (c := c) (ps := q :: r) (by simp)
    have e : (jn [c] (p :: q :: r)).length = p.length + 1 + (jn [c] (q :: r)).length := by
      show (p ++ [c] ++ _).length = _
      simp
      omega
    rw [e, List.map_cons, List.sum_cons, List.length_cons]
    omega
theorem jn_len2 {a b : Nat} : ∀ {ps : List (List Nat)}, ps ≠ [] → (ps.map List.length).sum + 2 * ps.length = (jn [a, b] ps).length + 2
  | [], h => absurd rfl h
  | [p], _ => by simp [jn]
  | p :: q :: r, _ => by
    have ih := jn_len2 (a := a) (b := b) (ps := q :: r) (by simp)
    have e : (jn [a, b] (p :: q :: r)).length = p.length + 2 + (jn [a, b] (q :: r)).length := by
      show (p ++ [a, b] ++ _).length = _
      simp
      omega
    rw [e, List.map_cons, List.sum_cons, List.length_cons]
    omega
theorem cs_split (x y : Str) : cs x = jn (cs y) ((Txt.split x y).map cs) := by
  rw [← cs_join, StrLaws.join_split]
theorem split_len1 (x : Str) (c : Nat) : ((Txt.split x ⟨#[c]⟩).map (·.length)).sum + (Txt.split x ⟨#[c]⟩).length = x.length + 1 := by
  have e := jn_len1 (c := c) (ps := (Txt.split x ⟨#[c]⟩).map cs) (by simp [split_ne])
  have h := cs_split x ⟨#[c]⟩
  rw [cs_one] at h
  rw [← h, cs_len, List.map_map, List.length_map] at e
  exact e
theorem split_len2 (x : Str) (a b : Nat) : ((Txt.split x ⟨#[a, b]⟩).map (·.length)).sum + 2 * (Txt.split x ⟨#[a, b]⟩).length = x.length + 2 := by
  have e := jn_len2 (a := a) (b := b) (ps := (Txt.split x ⟨#[a, b]⟩).map cs) (by simp [split_ne])
  have h := cs_split x ⟨#[a, b]⟩
  rw [show cs (⟨#[a, b]⟩ : Str) = [a, b] from rfl] at h
  rw [← h, cs_len, List.map_map, List.length_map] at e
  exact e
theorem mem_sum {α : Type} {f : α → Nat} {x : α} : ∀ {l : List α}, x ∈ l → f x ≤ (l.map f).sum
  | [], h => by cases h
  | y :: l, h => by
    rw [List.map_cons, List.sum_cons]
    rcases List.mem_cons.mp h with rfl | h
    · omega
    · have := mem_sum (f := f) h
      omega
theorem split_pos (x y : Str) : 0 < (Txt.split x y).length := List.length_pos_iff.mpr (split_ne x y)
theorem inn_len (r : Str) : (inn r).length ≤ r.length := cutS_length r _ _
theorem bodies_len (r : Str) : (Txt.split (inn r) ")(").length ≤ r.length + 1 ∧ ∀ b ∈ Txt.split (inn r) ")(", b.length ≤ r.length := by
  rw [s_cut]
  have e := split_len2 (inn r) 41 40
  have p := split_pos (inn r) ⟨#[41, 40]⟩
  have l := inn_len r
  refine ⟨by omega, fun b hb => ?_⟩
  have := mem_sum (f := fun (x : Str) => x.length) hb
  omega
theorem flat_sum {α : Type} (g : Str → List α) : ∀ (l : List Str), (l.map g).flatten.length = (l.map fun b => (g b).length).sum
  | [] => rfl
  | b :: l => by
    rw [List.map_cons, List.flatten_cons, List.length_append, flat_sum g l, List.map_cons, List.sum_cons]
theorem words_len (r : Str) : (wordsOf r).flatten.length ≤ r.length + 1 ∧ (wordsOf r).length ≤ r.length + 1 ∧ (∀ ws ∈ wordsOf r, ws ≠ [] ∧ ws.length ≤ r.length + 1) ∧ ∀ w ∈ (wordsOf r).flatten, w.length ≤ r.length := by
  have e := split_len2 (inn r) 41 40
  have p := split_pos (inn r) ⟨#[41, 40]⟩
  have l := inn_len r
  have bl := bodies_len r
  have one : ∀ b : Str, (Txt.split b ",").length ≤ b.length + 1 ∧ ∀ w ∈ Txt.split b ",", w.length ≤ b.length := fun b => by
    rw [s_comma]
    have e1 := split_len1 b 44
    have p1 := split_pos b ⟨#[44]⟩
    refine ⟨by omega, fun w hw => ?_⟩
    have := mem_sum (f := fun (x : Str) => x.length) hw
    omega
  have sum : ∀ l : List Str, (l.map fun b => (Txt.split b ",").length).sum ≤ (l.map (·.length)).sum + l.length := fun l => by
    induction l with
    | nil => simp
    | cons b l ih =>
      have := (one b).1
      rw [List.map_cons, List.sum_cons, List.map_cons, List.sum_cons, List.length_cons]
      omega
  unfold wordsOf
  refine ⟨?_, by rw [List.length_map]; exact bl.1, fun ws hw => ?_, fun w hw => ?_⟩
  · rw [flat_sum]
    have := sum (Txt.split (inn r) ")(")
    rw [s_cut] at this ⊢
    omega
  · obtain ⟨b, hb, rfl⟩ := List.mem_map.mp hw
    have := bl.2 b hb
    exact ⟨split_ne _ _, by have := (one b).1; omega⟩
  · obtain ⟨ws, hws, hm⟩ := List.mem_flatten.mp hw
    obtain ⟨b, hb, rfl⟩ := List.mem_map.mp hws
    have h1 := bl.2 b hb
    have h2 := (one b).2 w hm
    omega
/-- lists of texts in a list -/
structure RgS (H : Hp) (as : List Addr) (ws : List (List Str)) : Prop where
  len : as.length = ws.length
  at_ : ∀ (i : Nat) (b : Addr) (w : List Str), as[i]? = some b → ws[i]? = some w → H b = some (.lst (w.map V.str))
theorem RgS.mono {H H' : Hp} {as : List Addr} {ws : List (List Str)} (g : RgS H as ws) (s : Same H H') : RgS H' as ws := ⟨g.len, fun i b w h1 h2 => s _ _ (g.at_ i b w h1 h2)⟩
def RIok (r : Str) : Prop := Txt.startswith r "(" = true ∧ Txt.endswith r ")" = true ∧ (wordsOf r).flatten.Nodup ∧ ∀ w ∈ (wordsOf r).flatten, numS w = true
/-- len of a list (or tuple) -/
def rLenS (K : PySem.W.Frag) : List V → Hp → VK → Prop := fun xs H Q => ∃ (p : Addr) (ys : List V), xs = [.ref p] ∧ (SqL K H p ys ∨ SqT K H p ys) ∧ Q (.int (ys.length : Nat)) H
section
variable {X : Cx}
theorem call_lenS : CallR X (.builtin "len") (rLenS X.K) := call_len_seq
end
section
variable {P : Program} {w : World} {K : PySem.W.Frag} {mg : Str → Option Value} {base : Heap}
/-! ### rings_in -/
abbrev s_rings_in : Stmt := top 16
theorem sc_rings_in : FnScope ["text", "rings", "places", "ring", "place"] ["text"] (defScope s_rings_in) := ⟨rfl, rfl, rfl, by decide +kernel, rfl, by decide +kernel, by decide +kernel⟩

def spRingsIn : Sp := fun vs H Q _ => ∃ r : Str, vs = [.str r] ∧ r.length ≤ 1000 ∧ (r = ("()" : Str) → ∀ (o : Addr) (H' : Hp), Same H H' → H o = none → H' o = some (.lst []) → Q (.ref o) H') ∧
  (r ≠ ("()" : Str) → RIok r → ∀ (o : Addr) (as : List Addr) (H' : Hp), Same H H' → H o = none → H' o = some (.lst (as.map V.ref)) → RgS H' as (wordsOf r) → Q (.ref o) H') ∧ (r ≠ ("()" : Str) → ¬ RIok r → ∀ H' : Hp, Same H H' → Q .non H')
theorem ok_rings_in {f : Addr} {fd : FuncData} (F : Fun K "rings_in" "rings_in" s_rings_in f fd) (T : Blt mg) (D_is_number : DefOk P w K mg base CX0 1 "is_number" ["text"] [] spIsNum) : FnOk P w K mg base CX0 2 f fd ["text"] spRingsIn := by
  refine F.ok sc_rings_in (fun vs H Q E h => ?_) (fun cdv A outer s H vs Q E hr h => ?_)
  · obtain ⟨x, rfl, _⟩ := h; rfl
  · obtain ⟨r, rfl, hl, q1, q2, q3⟩ := h
    refine ⟨_, (pss_cons (ps_if (pt_cmpR op_eq (pv 0) pe_str (nomark _)) (pss_one (ps_ret (pe_lst pa_nil))) pss_nil)
    (pss_cons (ps_if (pt_not (PW.pt (pw_and (pt_truth (L2.pe_m1 PySem.F.slot_str_startswith PySem.F.type_str_startswith mt_startswith (pv 0) pe_str) (by intro _; rfl)) (pw_and1 (pt_truth (L2.pe_m1 PySem.F.slot_str_endswith PySem.F.type_str_endswith mt_endswith (pv 0) pe_str) (by intro _; rfl)))))) (pss_one (ps_ret pe_non)) pss_nil)
    (pss_cons (ps_setLc (i := 1) (own := [("ring", 3)]) (tt := tYes) rfl sc_rings_in.nd rfl rfl (sw_true rfl rfl rfl (by decide +kernel)) (pi_list (pe_split (pe_slice sl_str (pv 0) (po_some pe_int) (po_some (pe_un un_neg pe_int))) pe_str)) (blkOk_by (N := ["text", "rings", "places", "ring", "place"]) (sc := defScope s_rings_in) (by decide +kernel)) (fun _ _ _ _ _ => (pg_name (i := 3) sc_rings_in.nd rfl (.inl rfl))) (fun _ _ _ _ _ => pts_nil) (fun _ _ _ _ _ => by exact (pe_split (pv 3) pe_str)))
    (pss_cons (ps_setLc2 (i := 2) (own := [("ring", 3), ("place", 4)]) (vs1 := [4]) (tt := tYes) (tt1 := tYes) (wi1 := iList K (tVar 3)) rfl sc_rings_in.nd rfl rfl (sw_true rfl rfl rfl (by decide +kernel)) (pi_list (pv 1)) (blkOk_by (N := ["text", "rings", "places", "ring", "place"]) (sc := defScope s_rings_in) (by decide +kernel)) (by decide) (fun _ _ _ _ _ => (pg_name (i := 3) sc_rings_in.nd rfl (.inl rfl))) (fun _ _ _ _ _ => pts_nil) (fun _ _ _ _ _ => by exact (pi_list (pv 3))) (fun _ _ _ _ _ => (pg_name (i := 4) sc_rings_in.nd rfl (.inl rfl))) (fun _ _ _ _ _ => pts_nil) (fun _ _ _ _ _ => by exact (pv 4)))
    (pss_cons (ps_if (PW.pt (pw_or (pt_cmpR op_lt (pe_lenSetS rfl (by rfl) T.len (by rfl) T.set (pv 2)) (pe_callB call_lenS (by rfl) T.len PySem.boot_len (pa_cons (pv 2) pa_nil)) (nomark _)) (pw_or1 (pt_not (pt_truth (pe_callB (cr_all rfl) (by rfl) T.all (by decide +kernel) (pa_cons (pe_lc (own := [("place", 4)]) (tt := tYes) rfl sc_rings_in.nd (pi_list (pv 2)) (blkOk_by (N := ["text", "rings", "places", "ring", "place"]) (sc := defScope s_rings_in) (by decide +kernel)) (fun _ _ _ _ _ => (pg_name (i := 4) sc_rings_in.nd rfl (.inl rfl))) (fun _ _ _ _ _ => pts_nil) (fun _ _ _ _ _ => by exact (pe_d D_is_number hr pass0 (pa_cons (pv 4) pa_nil)))) pa_nil)) (by intro _; rfl)))))) (pss_one (ps_ret pe_non)) pss_nil)
    (pss_one (ps_ret (pv 1)))))))), ?_⟩
    refine ⟨_, rfl, rfl, _, rfl, ?_⟩
    by_cases c0 : r = ("()" : Str)
    · have e : decide (V.str r = V.str "()") = true := decide_eq_true (by rw [c0])
      rw [e]
      exact iteT ⟨Nat.zero_le _, fun o no => q1 c0 o _ (same_upd no) no upd_same⟩
    have e : decide (V.str r = V.str "()") = false := decide_eq_false fun h => c0 (V.str.inj h)
    rw [e]
    refine iteF ?_
    refine ⟨_, rfl, ⟨_, rfl⟩, r, "(", rfl, rfl, _, rfl, ?_⟩
    cases c1 : Txt.startswith r "("
    · exact iteF (iteT (q3 c0 (fun z => by rw [z.1] at c1; cases c1) H (Same.refl _)))
    refine iteT ⟨_, rfl, ⟨_, rfl⟩, r, ")", rfl, rfl, _, rfl, ?_⟩
    cases c2 : Txt.endswith r ")"
    · exact iteT (q3 c0 (fun z => by rw [z.2.1] at c2; cases c2) H (Same.refl _))
    refine iteF ?_
    have wl := words_len r
    have bl := bodies_len r
    have il := inn_len r
    refine ⟨_, rfl, _, rfl, _, rfl, _, rfl, r, rfl, by rw [sizeLine_eq]; omega, ⟨_, rfl⟩, inn r, ")(", rfl, rfl, by decide +kernel, by rw [sizeLine_eq]; omega, fun L nL => ?_⟩
    have sL := same_upd (o := .lst ((Txt.split (inn r) ")(").map V.str)) nL
    have hL : (upd H L (.lst ((Txt.split (inn r) ")(").map V.str))) L = some (.lst ((Txt.split (inn r) ")(").map V.str)) := upd_same
    refine ⟨L, rfl, ⟨_, SqL.of hL⟩, fun D nD => ?_⟩
    generalize upd H L (.lst ((Txt.split (inn r) ")(").map V.str)) = H1 at sL hL nD ⊢
    have few : ∀ k, (wordsOf r).length + k ≤ 2000 → k ≤ 2000 := fun k h => by omega
    refine lc_list (K := K) (a := L) (xs := (Txt.split (inn r) ")(").map V.str) (fun i H2 => ∃ as : List Addr, Same H1 H2 ∧ H2 D = some (.lst (as.map V.ref)) ∧ as.length = i ∧ (∀ b ∈ as, H b = none ∧ b ≠ D) ∧ RgS H2 as ((wordsOf r).take i))
      ⟨[], same_upd nD, upd_same, rfl, (by intro b h; cases h), ⟨rfl, fun i b w h1 _ => by cases h1⟩⟩ (fun i H2 _ ⟨_, s, _⟩ => SqL.of (s _ _ hL)) ?_ ?_
    · rintro i y H2 hi ⟨as, s2, hD, al, an, ag⟩
      obtain ⟨b, hb, rfl⟩ : ∃ b, (Txt.split (inn r) ")(")[i]? = some b ∧ y = V.str b := by
        rw [List.getElem?_map] at hi
        cases e : (Txt.split (inn r) ")(")[i]? with
        | none => rw [e] at hi; cases hi
        | some b => rw [e] at hi; exact ⟨b, rfl, (Option.some.inj hi).symm⟩
      have hbl := bl.2 b (List.mem_of_getElem? hb)
      have hw : (wordsOf r)[i]? = some (Txt.split b ",") := by unfold wordsOf; rw [List.getElem?_map, hb]; rfl
      have hil := (List.getElem?_eq_some_iff.mp hw).1
      refine ⟨rfl, yesT ⟨_, rfl, ⟨_, rfl⟩, b, ",", rfl, rfl, by decide +kernel, by rw [sizeLine_eq]; omega, fun p np => ?_⟩⟩
      have Dp : D ≠ p := ne_of_none hD np
      refine ⟨_, same_upd np _ _ hD, small64 (by rw [List.length_map]; omega), as ++ [p], mutS (s2.trans (same_upd np)) nD, by rw [upd_same, List.map_append]; rfl, by rw [List.length_append, al]; rfl, ?_, ?_⟩
      · intro b' hb'
        rcases List.mem_append.mp hb' with h | h
        · exact an b' h
        · rw [List.mem_singleton.mp h]
          exact ⟨sL.free (s2.free np), Dp.symm⟩
      · rw [List.take_add_one, hw]
        have g1 : RgS (upd H2 p (.lst ((Txt.split b ",").map V.str))) (as ++ [p]) ((wordsOf r).take i ++ [Txt.split b ","]) := by
          refine ⟨by rw [List.length_append, List.length_append, ag.len]; rfl, fun k c w h1 h2 => ?_⟩
          by_cases ck : k < as.length
          · rw [List.getElem?_append_left ck] at h1
            rw [List.getElem?_append_left (by rw [← ag.len]; exact ck)] at h2
            exact same_upd np _ _ (ag.at_ k c w h1 h2)
          · rw [List.getElem?_append_right (by omega)] at h1
            rw [List.getElem?_append_right (by rw [← ag.len]; omega), ← ag.len] at h2
            match k - as.length, h1, h2 with
            | 0, h1, h2 => cases h1; cases h2; exact upd_same
            | n + 1, h1, _ => cases h1
        refine ⟨g1.len, fun k c w h1 h2 => ?_⟩
        have hm := List.mem_of_getElem? h1
        have cD : c ≠ D := by
          rcases List.mem_append.mp hm with h | h
          · exact (an c h).2
          · rw [List.mem_singleton.mp h]; exact Dp.symm
        rw [upd_ne cD]
        exact g1.at_ k c w h1 h2
    · rintro H2 ⟨as, s2, hD, al, an, ag⟩
      have lw : (Txt.split (inn r) ")(").length = (wordsOf r).length := by unfold wordsOf; rw [List.length_map]
      rw [List.length_map, lw, List.take_length] at ag
      refine ⟨_, rfl, D, rfl, ⟨_, SqL.of hD⟩, fun E2 nE => ?_⟩
      refine out_list (K := K) (a := D) (xs := as.map V.ref) (fun i H3 => Same H2 H3 ∧ H3 E2 = some (.lst (((wordsOf r).take i).flatten.map V.str))) ⟨same_upd nE, upd_same⟩ (fun i H3 _ ⟨s3, _⟩ => SqL.of (s3 _ _ hD)) ?_ ?_
      · rintro i y H3 hi ⟨s3, hE⟩
        obtain ⟨b, hb, rfl⟩ : ∃ b, as[i]? = some b ∧ y = V.ref b := by
          rw [List.getElem?_map] at hi
          cases e : as[i]? with
          | none => rw [e] at hi; cases hi
          | some b => rw [e] at hi; exact ⟨b, rfl, (Option.some.inj hi).symm⟩
        have hil : i < (wordsOf r).length := by rw [← ag.len]; exact (List.getElem?_eq_some_iff.mp hb).1
        obtain ⟨ws, hws⟩ : ∃ ws, (wordsOf r)[i]? = some ws := ⟨_, List.getElem?_eq_getElem hil⟩
        have hbw := ag.at_ i b ws hb hws
        refine ⟨rfl, yesT ?_⟩
        refine ⟨_, rfl, b, rfl, ⟨_, SqL.of (s3 _ _ hbw)⟩, ?_⟩
        refine in_list (K := K) (a := b) (xs := ws.map V.str) (fun j H4 => Same H2 H4 ∧ H4 E2 = some (.lst ((((wordsOf r).take i).flatten ++ ws.take j).map V.str))) ⟨s3, by rw [List.take_zero, List.append_nil]; exact hE⟩ (fun j H4 _ ⟨s4, _⟩ => SqL.of (s4 _ _ hbw)) ?_ ?_
        · rintro j y H4 hj ⟨s4, hE4⟩
          obtain ⟨x, hx, rfl⟩ : ∃ x, ws[j]? = some x ∧ y = V.str x := by
            rw [List.getElem?_map] at hj
            cases e : ws[j]? with
            | none => rw [e] at hj; cases hj
            | some x => rw [e] at hj; exact ⟨x, rfl, (Option.some.inj hj).symm⟩
          have lf : (((wordsOf r).take i).flatten ++ ws.take j).length ≤ 3000 := by
            have a1 : ((wordsOf r).take i).flatten.length ≤ (wordsOf r).flatten.length := by
              have e : (wordsOf r).flatten = ((wordsOf r).take i).flatten ++ ((wordsOf r).drop i).flatten := by rw [← List.flatten_append, List.take_append_drop]
              rw [e, List.length_append]
              omega
            have a2 := (wl.2.2.1 ws (List.mem_of_getElem? hws)).2
            rw [List.length_append, List.length_take]
            omega
          refine ⟨rfl, yesT ⟨_, rfl, _, hE4, small64 (by rw [List.length_map]; omega), mutS s4 nE, ?_⟩⟩
          rw [upd_same, List.take_add_one, hx, ← List.append_assoc, List.map_append, List.map_append, List.map_append]
          rfl
        · rintro H4 ⟨s4, hE4⟩
          rw [List.length_map, List.take_length] at hE4
          refine ⟨s4, ?_⟩
          rw [hE4, List.take_add_one, hws]
          simp
      · rintro H3 ⟨s3, hE⟩
        rw [List.length_map, ag.len, List.take_length] at hE
        have nE0 : H E2 = none := sL.free (s2.free nE)
        have s03 := (sL.trans s2).trans s3
        refine ⟨_, rfl, E2, (wordsOf r).flatten, rfl, SqL.of hE, by omega, fun c un => ?_⟩
        refine ⟨_, rfl, E2, _, rfl, .inl (SqL.of hE), _, _, rfl, rfl, _, rfl, ?_⟩
        by_cases nd : ¬ (wordsOf r).flatten.Nodup
        · have lt : c < (wordsOf r).flatten.length := by
            have a := un.1
            have b : c ≠ (wordsOf r).flatten.length := fun e => nd (un.2.mp e)
            omega
          refine decT (by rw [List.length_map]; omega) (iteT ?_)
          exact q3 c0 (fun z => nd z.2.2.1) H3 s03
        have nd := Classical.not_not.mp nd
        have ec := un.2.mpr nd
        refine decF (by rw [List.length_map]; omega) ?_
        refine ⟨_, rfl, E2, rfl, ⟨_, SqL.of hE⟩, fun E3 nE3 => ?_⟩
        refine lc_list (K := K) (a := E2) (xs := (wordsOf r).flatten.map V.str) (fun i H4 => Same H3 H4 ∧ H4 E3 = some (.lst ((((wordsOf r).flatten.take i).map numS).map V.bl))) ⟨same_upd nE3, upd_same⟩ (fun i H4 _ ⟨s4, _⟩ => SqL.of (s4 _ _ hE)) ?_ ?_
        · rintro i y H4 hi ⟨s4, h4⟩
          obtain ⟨x, hx, rfl⟩ : ∃ x, (wordsOf r).flatten[i]? = some x ∧ y = V.str x := by
            rw [List.getElem?_map] at hi
            cases e : (wordsOf r).flatten[i]? with
            | none => rw [e] at hi; cases hi
            | some x => rw [e] at hi; exact ⟨x, rfl, (Option.some.inj hi).symm⟩
          refine ⟨rfl, yesT ⟨_, rfl, x, rfl, _, h4, small64 (by rw [List.length_map, List.length_map, List.length_take]; omega), mutS s4 nE3, ?_⟩⟩
          rw [upd_same, List.take_add_one, hx, List.map_append, List.map_append]
          rfl
        · rintro H4 ⟨s4, h4⟩
          rw [List.length_map, List.take_length] at h4
          have s04 := s03.trans s4
          refine ⟨E3, _, rfl, SqL.of h4, _, rfl, ?_⟩
          by_cases al2 : ∀ w ∈ (wordsOf r).flatten, numS w = true
          · have e5 : ((wordsOf r).flatten.map numS).all id = true := by
              rw [List.all_eq_true]
              intro b hb
              obtain ⟨w, hw, rfl⟩ := List.mem_map.mp hb
              exact al2 w hw
            rw [e5]
            refine iteF ⟨_, rfl, q2 c0 ⟨c1, c2, nd, al2⟩ D as H4 s04 (sL.free nD) (s4 _ _ (s3 _ _ hD)) (ag.mono (s3.trans s4))⟩
          · have e5 : ((wordsOf r).flatten.map numS).all id = false := by
              rw [Bool.eq_false_iff]
              intro h
              rw [List.all_eq_true] at h
              exact al2 fun w hw => h _ (List.mem_map.mpr ⟨w, hw, rfl⟩)
            rw [e5]
            exact iteT (q3 c0 (fun z => al2 z.2.2.2) H4 s04)
end
def rIntS : List V → Hp → VK → Prop := fun xs H Q => ∃ a n, xs = [.str a] ∧ PySem.intText? a = some n ∧ a.length ≤ 640 ∧ Q (.int n) H
section
variable {X : Cx}
theorem call_intS : CallR X (.type "int") rIntS := call_int_str
end
section
variable {P : Program} {w : World} {K : PySem.W.Frag} {mg : Str → Option Value} {base : Heap}
/-! ### with_integers -/
abbrev s_with_integers : Stmt := top 17
theorem sc_with_integers : FnScope ["rings", "ring", "place"] ["rings"] (defScope s_with_integers) := ⟨rfl, rfl, rfl, by decide +kernel, rfl, by decide +kernel, by decide +kernel⟩

def spWithInts (K : PySem.W.Frag) : Sp := fun vs H Q _ => ∃ (a : Addr) (as : List Addr) (rs : List (List Nat)), vs = [.ref a] ∧ SqL K H a (as.map V.ref) ∧ RgS H as (rs.map fun r => r.map txN) ∧ (∀ x ∈ rs.flatten, x < 1000) ∧ rs.flatten.length ≤ 2000 ∧ rs.length ≤ 2000 ∧
  ∀ (o : Addr) (bs : List Addr) (H' : Hp), Same H H' → H o = none → H' o = some (.lst (bs.map V.ref)) → Rg H' bs rs → Q (.ref o) H'
theorem ok_with_integers {f : Addr} {fd : FuncData} (F : Fun K "with_integers" "with_integers" s_with_integers f fd) (T : Blt mg) : FnOk P w K mg base CX0 1 f fd ["rings"] (spWithInts K) := by
  refine F.ok sc_with_integers (fun vs H Q E h => ?_) (fun cdv A outer s H vs Q E hr h => ?_)
  · obtain ⟨a, as, rs, rfl, _⟩ := h; rfl
  · obtain ⟨a, as, rs, rfl, hS, hg, hx, hl, hn, q⟩ := h
    refine ⟨_, (pss_one (ps_ret (pe_lc (own := [("ring", 1)]) (tt := tYes) (te := tLc (iList K (tVar 1)) (gName 2) tYes (tCB rIntS (tCons (tVar 2) tNil)) [2]) rfl sc_with_integers.nd (pi_list (pv 0)) (blkOk_by (N := ["rings", "ring", "place"]) (sc := defScope s_with_integers) (by decide +kernel)) (fun _ _ _ _ _ => (pg_name (i := 1) sc_with_integers.nd rfl (.inl rfl))) (fun _ _ _ _ _ => pts_nil) (fun _ _ _ _ _ => by exact (pe_lc (own := [("place", 2)]) (tt := tYes) rfl sc_with_integers.nd (pi_list (pv 1)) (by exact (blkOk_by (N := ["rings", "ring", "place"]) (by rfl))) (fun _ _ _ _ _ => (pg_name (i := 2) sc_with_integers.nd rfl (.inl rfl))) (fun _ _ _ _ _ => pts_nil) (fun _ _ _ _ _ => by exact (pe_callTy call_intS (by rfl) T.int (by decide +kernel) (pa_cons (pv 2) pa_nil)))))))), ?_⟩
    refine ⟨_, rfl, a, rfl, ⟨_, hS⟩, fun D nD => ?_⟩
    refine lc_list (K := K) (a := a) (xs := as.map V.ref) (fun i H1 => ∃ bs : List Addr, Same H H1 ∧ H1 D = some (.lst (bs.map V.ref)) ∧ bs.length = i ∧ (∀ b ∈ bs, b ≠ D) ∧ Rg H1 bs (rs.take i))
      ⟨[], same_upd nD, upd_same, rfl, (by intro b h; cases h), Rg.nil⟩ (fun i H1 _ ⟨_, s1, _⟩ => s1.seq hS) ?_ ?_
    · rintro i y H1 hi ⟨bs, s1, hD, bl, bn, bg⟩
      obtain ⟨b, hb, rfl⟩ : ∃ b, as[i]? = some b ∧ y = V.ref b := by
        rw [List.getElem?_map] at hi
        cases e : as[i]? with
        | none => rw [e] at hi; cases hi
        | some b => rw [e] at hi; exact ⟨b, rfl, (Option.some.inj hi).symm⟩
      have hil : i < rs.length := by
        have := (List.getElem?_eq_some_iff.mp hb).1
        rw [hg.len, List.length_map] at this
        exact this
      obtain ⟨r, hr'⟩ : ∃ r, rs[i]? = some r := ⟨_, List.getElem?_eq_getElem hil⟩
      have rm := List.mem_of_getElem? hr'
      have hbr := hg.at_ i b (r.map txN) hb (by rw [List.getElem?_map, hr']; rfl)
      have rl := mem_len rm
      refine ⟨rfl, yesT ?_⟩
      refine ⟨_, rfl, b, rfl, ⟨_, SqL.of (s1 _ _ hbr)⟩, fun D2 nD2 => ?_⟩
      have DD : D ≠ D2 := ne_of_none hD nD2
      refine lc_list (K := K) (a := b) (xs := (r.map txN).map V.str) (fun j H2 => Same H1 H2 ∧ H2 D2 = some (.lst ((r.take j).map nv))) ⟨same_upd nD2, upd_same⟩ (fun j H2 _ ⟨s2, _⟩ => SqL.of (s2 _ _ (s1 _ _ hbr))) ?_ ?_
      · rintro j y H2 hj ⟨s2, hD2⟩
        obtain ⟨x, hx', rfl⟩ : ∃ x, r[j]? = some x ∧ y = V.str (txN x) := by
          rw [List.getElem?_map, List.getElem?_map] at hj
          cases e : r[j]? with
          | none => rw [e] at hj; cases hj
          | some x => rw [e] at hj; exact ⟨x, rfl, (Option.some.inj hj).symm⟩
        have x3 := hx x (List.mem_flatten.mpr ⟨r, rm, List.mem_of_getElem? hx'⟩)
        refine ⟨rfl, yesT ⟨_, rfl, txN x, (x : Int), rfl, intText_all x3, by have := txN_len x3; omega, _, hD2, small64 (by rw [List.length_map, List.length_take]; omega), mutS s2 nD2, ?_⟩⟩
        rw [upd_same, List.take_add_one, hx', List.map_append]
        rfl
      · rintro H2 ⟨s2, hD2⟩
        rw [List.length_map, List.length_map, List.take_length] at hD2
        refine ⟨_, s2 _ _ hD, small64 (by rw [List.length_map]; omega), bs ++ [D2], mutS (s1.trans s2) nD, by rw [upd_same, List.map_append]; rfl, by rw [List.length_append, bl]; rfl, ?_, ?_⟩
        · intro b' hb'
          rcases List.mem_append.mp hb' with h | h
          · exact bn b' h
          · rw [List.mem_singleton.mp h]; exact DD.symm
        · rw [List.take_add_one, hr']
          refine Rg.upd (Rg.snoc (bg.mono s2) hD2) fun hm => ?_
          rcases List.mem_append.mp hm with h | h
          · exact bn D h rfl
          · exact DD (List.mem_singleton.mp h)
    · rintro H1 ⟨bs, s1, hD, bl, bn, bg⟩
      rw [List.length_map, hg.len, List.length_map, List.take_length] at bg
      exact q D bs H1 s1 nD hD bg
end
/-! ### lists of lists of places compared -/
def dR (r : List Nat) : PyData := .list (r.map fun (x : Nat) => PyData.int x)
theorem dpRs {K : PySem.W.Frag} {H : Hp} {a : Addr} {as : List Addr} {rs : List (List Nat)} (h : SqL K H a (as.map V.ref)) (g : Rg H as rs) : Dp K H (.ref a) (.list (rs.map dR)) := by
  refine .lst h ?_
  clear h
  have key : ∀ (as : List Addr) (rs : List (List Nat)), as.length = rs.length → (∀ (i : Nat) (b : Addr) (r : List Nat), as[i]? = some b → rs[i]? = some r → H b = some (.lst (r.map nv))) → DpAll K H (as.map V.ref) (rs.map dR) := by
    intro as
    induction as with
    | nil =>
      intro rs hl _
      cases rs with
      | nil => exact .nil
      | cons r rs => cases hl
    | cons b as ih =>
      intro rs hl hh
      cases rs with
      | nil => cases hl
      | cons r rs =>
        refine .cons (dpI (SqL.of (hh 0 b r rfl rfl))) (ih rs (by simpa using hl) fun i b' r' h1 h2 => hh (i + 1) b' r' ?_ ?_)
        · rw [List.getElem?_cons_succ]; exact h1
        · rw [List.getElem?_cons_succ]; exact h2
  exact key as rs g.len fun i b r h1 h2 => g.at_ i b r h1 h2
theorem canRs (rs : List (List Nat)) : PyData.canLayAll0 (rs.map dR) = true := by
  induction rs with
  | nil => rfl
  | cons r rs ih =>
    have : PyData.canLay0 (dR r) = true := by
      unfold dR
      rw [PyData.canLay0]
      exact canI r
    rw [List.map_cons, PyData.canLayAll0, this, ih]
    rfl
theorem depRs (rs : List (List Nat)) : PyData.depthAll (rs.map dR) ≤ 1 := by
  induction rs with
  | nil => exact Nat.zero_le _
  | cons r rs ih =>
    have : PyData.depth (dR r) ≤ 1 := by
      unfold dR
      rw [PyData.depth, depI]
      exact Nat.le_refl _
    rw [List.map_cons, PyData.depthAll]
    omega
theorem shRs (rs : List (List Nat)) : SeqAt.shaped (.list (rs.map dR)) = true := by
  unfold SeqAt.shaped
  rw [PyData.canLay0, canRs, PyData.depth, Bool.true_and]
  have := depRs rs
  exact decide_eq_true (by omega)
theorem eqRs (rs : List (List Nat)) : PyData.eqv (.list (rs.map dR)) (.list (rs.map dR)) = true := by
  rw [PyData.eqv]
  induction rs with
  | nil => rfl
  | cons r rs ih =>
    have : PyData.eqv (dR r) (dR r) = true := by
      unfold dR
      rw [eqI]
      exact decide_eq_true rfl
    rw [List.map_cons, PyData.eqvAll, this, ih]
    rfl
theorem eqRs0 (rs : List (List Nat)) : PyData.eqv (.list (rs.map dR)) (.list []) = decide (rs = []) := by
  rw [PyData.eqv]
  cases rs with
  | nil => rfl
  | cons r rs => rfl
section
variable {P : Program} {w : World} {K : PySem.W.Frag} {mg : Str → Option Value} {base : Heap}
/-! ### _law_text -/
theorem txJ_ne {rs : List (List Nat)} (h : rs ≠ []) : (txJ rs).length ≠ 0 := by
  have e := cs_txJ rs
  rw [bod_cut h] at e
  rw [← cs_len, e]
  simp
abbrev s_l_text : Stmt := top 27
theorem sc_l_text : FnScope ["_law_rings_here", "_law_ring", "_law_place"] ["_law_rings_here"] (defScope s_l_text) := ⟨rfl, rfl, rfl, by decide +kernel, rfl, by decide +kernel, by decide +kernel⟩

theorem ok_l_text {f : Addr} {fd : FuncData} (F : Fun K "_law_text" "_law_text" s_l_text f fd) (T : Blt mg) (str : mg "str" = none) : FnOk P w K mg base CX0 1 f fd ["_law_rings_here"] (spText K) := by
  refine F.ok sc_l_text (fun vs H Q E h => ?_) (fun cdv A outer s H vs Q E hr h => ?_)
  · obtain ⟨a, as, rs, rfl, _⟩ := h; rfl
  · obtain ⟨a, as, rs, rfl, hS, hg, hx, hl, hn, q⟩ := h
    have hu2 : (A.deeper (envOfC "_law_text" (defScope s_l_text) s.heap.objs.size f cdv)).units + 64 < cLine := by have := hr.un; omega
    refine ⟨_, (pss_cons (ps_if (pt_cmpR (op_eqD hu2) (pv 0) (pe_lst pa_nil) (nomark _)) (pss_one (ps_ret pe_str)) pss_nil)
    (pss_one (ps_ret (pe_joinS pe_str (pe_lc (own := [("_law_ring", 1)]) (tt := tYes) (te := tOp rAddS (tOp rAddS (tC (.str "(")) (tM1 (rJoin K) (tC (.str ",")) (tLc (iList K (tVar 1)) (gName 2) tYes (tCB rStrI (tCons (tVar 2) tNil)) [2]))) (tC (.str ")"))) rfl sc_l_text.nd (pi_list (pv 0)) (blkOk_by (N := ["_law_rings_here", "_law_ring", "_law_place"]) (sc := defScope s_l_text) (by decide +kernel)) (fun _ _ _ _ _ => (pg_name (i := 1) sc_l_text.nd rfl (.inl rfl))) (fun _ _ _ _ _ => pts_nil) (fun _ _ _ _ _ => by exact (pe_op op_addS (pe_op op_addS pe_str (pe_joinS pe_str (pe_lc (own := [("_law_place", 2)]) (tt := tYes) rfl sc_l_text.nd (pi_list (pv 1)) (by exact (blkOk_by (N := ["_law_rings_here", "_law_ring", "_law_place"]) (by rfl))) (fun _ _ _ _ _ => (pg_name (i := 2) sc_l_text.nd rfl (.inl rfl))) (fun _ _ _ _ _ => pts_nil) (fun _ _ _ _ _ => by exact (pe_callTy call_strI (by rfl) str (by decide +kernel) (pa_cons (pv 2) pa_nil)))))) pe_str))))))), ?_⟩
    refine ⟨_, rfl, Nat.zero_le _, fun pz npz => ?_⟩
    have sz := same_upd (o := .lst []) npz
    have hz : (upd H pz (.lst [])) pz = some (.lst []) := upd_same
    refine ⟨_, _, dpRs (sz.seq hS) (hg.mono sz), dpI (l := []) (SqL.of hz), shRs _, shI [], ?_⟩
    rw [show PyData.eqv (.list (rs.map dR)) (.list (([] : List Nat).map fun (x : Nat) => PyData.int x)) = decide (rs = []) from eqRs0 rs]
    refine ⟨_, rfl, ?_⟩
    by_cases c0 : rs = []
    · refine decT c0 ?_
      have := q _ sz
      rw [c0, txA_nil] at this
      exact this
    refine decF c0 ?_
    have q : ∀ H' : Hp, Same (upd H pz (.lst [])) H' → Q (.str (txA rs)) H' := fun H' s => q H' (sz.trans s)
    have hS := sz.seq hS
    have hg := hg.mono sz
    generalize upd H pz (.lst []) = H at hS hg q ⊢
    refine ⟨⟨_, rfl⟩, _, rfl, a, rfl, ⟨_, hS⟩, fun D nD => ?_⟩
    refine lc_list (K := K) (a := a) (xs := as.map V.ref) (fun i H1 => Same H H1 ∧ H1 D = some (.lst (((rs.take i).map txR).map V.str))) ⟨same_upd nD, upd_same⟩ (fun i H1 _ ⟨s1, _⟩ => s1.seq hS) ?_ ?_
    · rintro i y H1 hi ⟨s1, hD⟩
      obtain ⟨b, hb, rfl⟩ : ∃ b, as[i]? = some b ∧ y = V.ref b := by
        rw [List.getElem?_map] at hi
        cases e : as[i]? with
        | none => rw [e] at hi; cases hi
        | some b => rw [e] at hi; exact ⟨b, rfl, (Option.some.inj hi).symm⟩
      have hil : i < rs.length := by rw [← hg.len]; exact (List.getElem?_eq_some_iff.mp hb).1
      obtain ⟨r, hr'⟩ : ∃ r, rs[i]? = some r := ⟨_, List.getElem?_eq_getElem hil⟩
      have hbr := hg.at_ i b r hb hr'
      have hrx : ∀ x ∈ r, x < 1000 := fun x hx' => hx x (List.mem_flatten.mpr ⟨r, List.mem_of_getElem? hr', hx'⟩)
      have hrl : r.length ≤ 1000 := by
        have := mem_len (List.mem_of_getElem? hr')
        omega
      refine ⟨rfl, yesT ?_⟩
      refine ⟨⟨_, rfl⟩, _, rfl, b, rfl, ⟨_, SqL.of (s1 _ _ hbr)⟩, fun D2 nD2 => ?_⟩
      refine lc_list (K := K) (a := b) (xs := r.map nv) (fun j H2 => Same H1 H2 ∧ H2 D2 = some (.lst (((r.take j).map txN).map V.str))) ⟨same_upd nD2, upd_same⟩ (fun j H2 _ ⟨s2, _⟩ => SqL.of (s2 _ _ (s1 _ _ hbr))) ?_ ?_
      · rintro j y H2 hj ⟨s2, hD2⟩
        obtain ⟨x, hx', rfl⟩ := of_nv_get hj
        refine ⟨rfl, yesT ?_⟩
        refine ⟨_, rfl, (x : Int), rfl, ?_, _, hD2, small64 (by rw [List.length_map, List.length_map, List.length_take]; omega), mutS s2 nD2, ?_⟩
        · have := hrx x (List.mem_of_getElem? hx')
          rw [Int.natAbs_natCast]
          exact Nat.lt_of_le_of_lt (Nat.log2_le_self x) (by omega)
        · rw [upd_same, List.take_add_one, hx', List.map_append, List.map_append]
          rfl
      · rintro H2 ⟨s2, hD2⟩
        rw [List.length_map, List.take_length] at hD2
        have b1 := join_ring hrx
        have b2 := txR_len hrx
        have b3 : (Txt.join "," (r.map txN)).length ≤ r.length * 4 + r.length := by
          have a := join_le "," (r.map txN)
          rw [List.length_map, comma_len] at a
          omega
        refine ⟨",", D2, r.map txN, rfl, rfl, .inl (SqL.of hD2), by rw [List.length_map, comma_len]; omega, "(", _, rfl, rfl, by rw [open_len, sizeLine_eq]; omega, _, ")", rfl, rfl, by rw [app_len, open_len, close_len, sizeLine_eq]; omega,
          _, s2 _ _ hD, small64 (by rw [List.length_map, List.length_map, List.length_take]; omega), mutS (s1.trans s2) nD, ?_⟩
        rw [upd_same, List.take_add_one, hr', List.map_append, List.map_append]
        rfl
    · rintro H1 ⟨s1, hD⟩
      rw [List.length_map, hg.len, List.take_length] at hD
      have b1 := txJ_sum hx
      have b2 : (txJ rs).length ≤ 10000 := by
        have a := join_le "" (rs.map txR)
        rw [List.length_map, none_len] at a
        show (Txt.join "" (rs.map txR)).length ≤ _
        omega
      refine ⟨"", D, rs.map txR, rfl, rfl, .inl (SqL.of hD), by rw [List.length_map, none_len]; omega, ?_⟩
      have := q H1 s1
      unfold txA at this
      rw [if_neg (txJ_ne c0)] at this
      exact this
end
section
variable {P : Program} {w : World} {K : PySem.W.Frag} {mg : Str → Option Value} {base : Heap}
/-! ### _law_sign -/
def signs95 : Str := (" !\"#$&'()*+,-./0123456789:;<=>?@ABCDEFGHIJKLMNOPQRSTUVWXYZ[\\]^_`" : Str) ++ ("abcdefghijklmnopqrstuvwxyz{|}~\n" : Str)
theorem signs95_len : signs95.length = 95 := by decide +kernel
theorem signs95_ascii : ∀ c ∈ cs signs95, c < 128 := by decide +kernel
abbrev s_l_sign : Stmt := top 29
theorem sc_l_sign : FnScope ["_law_k", "_law_signs"] ["_law_k"] (defScope s_l_sign) := ⟨rfl, rfl, rfl, by decide +kernel, rfl, by decide +kernel, by decide +kernel⟩

def spSign : Sp := fun vs H Q _ => ∃ k : Nat, vs = [nv k] ∧ ∀ c : Nat, c < 128 → Q (.str ⟨#[c]⟩) H
theorem ok_l_sign {f : Addr} {fd : FuncData} (F : Fun K "_law_sign" "_law_sign" s_l_sign f fd) : FnOk P w K mg base CX0 1 f fd ["_law_k"] spSign := by
  refine F.ok sc_l_sign (fun vs H Q E h => ?_) (fun cdv A outer s H vs Q E hr h => ?_)
  · obtain ⟨k, rfl, _⟩ := h; rfl
  · obtain ⟨k, rfl, q⟩ := h
    refine ⟨_, (pss_cons (ps_set (i := 1) sc_l_sign.nd rfl (.inl rfl) pe_str)
    (pss_cons (ps_set (i := 1) sc_l_sign.nd rfl (.inl rfl) (pe_op op_addS (pv 1) pe_str))
    (pss_one (ps_ret (pe_ix ix_str (pv 1) (pe_op op_mod (pv 0) pe_int) (fun _ _ => rfl)))))), ?_⟩
    refine ⟨_, rfl, _, _, rfl, rfl, by rw [sizeLine_eq]; decide +kernel, _, rfl, _, rfl, _, _, rfl, rfl, (by show (0 : Int) < 95; decide), ?_⟩
    have hk : k % 95 < signs95.cps.toList.length := by
      have : signs95.cps.toList.length = 95 := signs95_len
      rw [this]
      exact Nat.mod_lt _ (by decide)
    refine ⟨signs95, _, signs95.cps.toList[k % 95], rfl, rfl, by rw [signs95_len, sizeLine_eq]; decide, ?_, q _ (signs95_ascii _ (List.getElem_mem hk))⟩
    exact atI_nat (j := k % 95) (List.getElem?_eq_getElem hk)
/-! ### _law_spoilt -/
def rLenTx : List V → Hp → VK → Prop := fun xs H Q => ∃ z, xs = [.str z] ∧ z.length ≤ sizeLine ∧ Q (.int z.length) H
theorem call_lenT {X : Cx} : CallR X (.builtin "len") rLenTx := call_len_str
/-- the text and one step from it: signs put in, left out, changed -/
def Step (t s : Str) : Prop := ∃ (i j : Nat) (m : List Nat), i ≤ (cs t).length ∧ (j = i ∨ j = i + 1) ∧ m.length ≤ 1 ∧ (∀ c ∈ m, c < 128 ∨ c ∈ cs t) ∧ cs s = (cs t).take i ++ m ++ (cs t).drop j
theorem Step.same (t : Str) : Step t t := ⟨0, 0, [], Nat.zero_le _, .inl rfl, Nat.zero_le _, (by intro c h; cases h), by simp⟩
theorem cs_to (t : Str) {i : Nat} (h : i ≤ t.length) : cs (cutS t none (some (i : Int))) = (cs t).take i := by
  show (((cs t).drop (HT.sIx t.length 0 none)).take (HT.sIx t.length t.length (some (i : Int)) - HT.sIx t.length 0 none)) = _
  rw [HT.sIx_nat, HT.sIx_none, List.drop_zero, Nat.sub_zero, Nat.min_eq_left h]
theorem cs_from (t : Str) (i : Nat) : cs (cutS t (some (i : Int)) none) = (cs t).drop i := by
  show (((cs t).drop (HT.sIx t.length 0 (some (i : Int)))).take (HT.sIx t.length t.length none - HT.sIx t.length 0 (some (i : Int)))) = _
  rw [HT.sIx_nat, HT.sIx_none]
  by_cases c : i ≤ t.length
  · rw [Nat.min_eq_left c, List.take_of_length_le (by rw [List.length_drop, cs_len]; exact Nat.le_refl _)]
  · rw [Nat.min_eq_right (by omega), List.drop_eq_nil_of_le (by rw [cs_len]; exact Nat.le_refl _), List.drop_eq_nil_of_le (by rw [cs_len]; omega), List.take_nil]
theorem cs_mid (t : Str) (i : Nat) : cs (cutS t (some (i : Int)) (some ((i + 1 : Nat) : Int))) = ((cs t).drop i).take 1 := by
  show (((cs t).drop (HT.sIx t.length 0 (some (i : Int)))).take (HT.sIx t.length t.length (some ((i + 1 : Nat) : Int)) - HT.sIx t.length 0 (some (i : Int)))) = _
  rw [HT.sIx_nat, HT.sIx_nat]
  by_cases c : i + 1 ≤ t.length
  · rw [Nat.min_eq_left c, Nat.min_eq_left (by omega), show i + 1 - i = 1 by omega]
  · rw [Nat.min_eq_right (by omega)]
    have e : (cs t).drop (min i t.length) = [] := List.drop_eq_nil_of_le (by rw [cs_len]; omega)
    have e2 : (cs t).drop i = [] := List.drop_eq_nil_of_le (by rw [cs_len]; omega)
    rw [e, e2, List.take_nil, List.take_nil]
theorem cutS_le (t : Str) (a b : Option Int) : (cutS t a b).length ≤ t.length := cutS_length t a b
abbrev s_l_spoilt : Stmt := top 30
theorem sc_l_spoilt : FnScope ["_law_text_here", "_law_kind", "_law_place", "_law_k", "_law_at"] ["_law_text_here", "_law_kind", "_law_place", "_law_k"] (defScope s_l_spoilt) := ⟨rfl, rfl, rfl, by decide +kernel, rfl, by decide +kernel, by decide +kernel⟩

def spSpoilt : Sp := fun vs H Q _ => ∃ (t : Str) (kd pl k : Nat), vs = [.str t, nv kd, nv pl, nv k] ∧ t.length ≤ 1000 ∧ ∀ s : Str, Step t s → Q (.str s) H
theorem ok_l_spoilt {f : Addr} {fd : FuncData} (F : Fun K "_law_spoilt" "_law_spoilt" s_l_spoilt f fd) (T : Blt mg) (D_l_sign : DefOk P w K mg base CX0 1 "_law_sign" ["_law_k"] [] spSign) : FnOk P w K mg base CX0 2 f fd ["_law_text_here", "_law_kind", "_law_place", "_law_k"] spSpoilt := by
  refine F.ok sc_l_spoilt (fun vs H Q E h => ?_) (fun cdv A outer s H vs Q E hr h => ?_)
  · obtain ⟨t, kd, pl, k, rfl, _⟩ := h; rfl
  · obtain ⟨t, kd, pl, k, rfl, hl, q⟩ := h
    refine ⟨_, (pss_cons (ps_set (i := 4) sc_l_spoilt.nd rfl (.inl rfl) (pe_op op_mod (pv 2) (pe_op op_add (pe_callB call_lenT (by rfl) T.len PySem.boot_len (pa_cons (pv 0) pa_nil)) pe_int)))
    (pss_cons (ps_if (pt_cmpR op_eq (pv 1) pe_int (nomark _)) (pss_one (ps_ret (pv 0))) pss_nil)
    (pss_cons (ps_if (pt_cmpR op_eq (pv 1) pe_int (nomark _)) (pss_one (ps_ret (pe_op op_addS (pe_op op_addS (pe_slice sl_str (pv 0) po_none (po_some (pv 4))) (pe_d D_l_sign hr pass0 (pa_cons (pv 3) pa_nil))) (pe_slice sl_str (pv 0) (po_some (pv 4)) po_none)))) pss_nil)
    (pss_cons (ps_if (pt_cmpR op_eq (pv 1) pe_int (nomark _)) (pss_one (ps_ret (pe_op op_addS (pe_slice sl_str (pv 0) po_none (po_some (pv 4))) (pe_slice sl_str (pv 0) (po_some (pe_op op_add (pv 4) pe_int)) po_none)))) pss_nil)
    (pss_cons (ps_if (pt_cmpR op_eq (pv 1) pe_int (nomark _)) (pss_one (ps_ret (pe_op op_addS (pe_op op_addS (pe_slice sl_str (pv 0) po_none (po_some (pv 4))) (pe_d D_l_sign hr pass0 (pa_cons (pv 3) pa_nil))) (pe_slice sl_str (pv 0) (po_some (pe_op op_add (pv 4) pe_int)) po_none)))) pss_nil)
    (pss_one (ps_ret (pe_op op_addS (pe_op op_addS (pe_slice sl_str (pv 0) po_none (po_some (pv 4))) (pe_slice sl_str (pv 0) (po_some (pv 4)) (po_some (pe_op op_add (pv 4) pe_int)))) (pe_slice sl_str (pv 0) (po_some (pv 4)) po_none))))))))), ?_⟩
    have tl : t.length ≤ sizeLine := by rw [sizeLine_eq]; omega
    refine ⟨_, rfl, _, rfl, t, rfl, tl, _, _, rfl, rfl, _, _, rfl, rfl, (by omega), ?_⟩
    obtain ⟨i, hi⟩ : ∃ i, i = pl % (t.length + 1) := ⟨_, rfl⟩
    have il : i ≤ t.length := by
      have := Nat.mod_lt pl (show 0 < t.length + 1 by omega)
      omega
    have em : (pl : Int) % ((t.length : Nat) + 1 : Int) = (i : Int) := by rw [hi]; rfl
    have ic : i ≤ (cs t).length := il
    refine ⟨_, rfl, rfl, _, rfl, ?_⟩
    have e0 : decide (nv kd = V.int 0) = decide (kd = 0) := dec_nv kd 0
    rw [e0]
    by_cases c0 : kd = 0
    · exact decT c0 ⟨_, rfl, q t (.same t)⟩
    refine decF c0 ⟨_, rfl, rfl, _, rfl, ?_⟩
    have e1 : decide (nv kd = V.int 1) = decide (kd = 1) := dec_nv kd 1
    rw [e1]
    by_cases c1 : kd = 1
    · refine decT c1 ?_
      refine ⟨_, rfl, _, rfl, _, rfl, t, rfl, tl, _, rfl, k, rfl, fun c hc => ?_⟩
      have l1 := cutS_le t none (some ((pl : Int) % ((t.length : Nat) + 1)))
      have l2 := cutS_le t (some ((pl : Int) % ((t.length : Nat) + 1))) none
      have lc : (⟨#[c]⟩ : Str).length = 1 := rfl
      refine ⟨_, _, rfl, rfl, by rw [lc, sizeLine_eq]; omega, _, rfl, _, rfl, _, rfl, t, rfl, tl, _, _, rfl, rfl, by rw [app_len, lc, sizeLine_eq]; omega, q _ ⟨i, i, [c], ic, .inl rfl, Nat.le_refl _, (by intro x hx; rw [List.mem_singleton.mp hx]; exact .inl hc), ?_⟩⟩
      rw [em, cs_app, cs_app, cs_to t il, cs_from t i]
      rfl
    refine decF c1 ⟨_, rfl, rfl, _, rfl, ?_⟩
    have e2 : decide (nv kd = V.int 2) = decide (kd = 2) := dec_nv kd 2
    rw [e2]
    have em1 : (pl : Int) % ((t.length : Nat) + 1 : Int) + 1 = ((i + 1 : Nat) : Int) := by rw [em]; rfl
    by_cases c2 : kd = 2
    · refine decT c2 ?_
      have l1 := cutS_le t none (some ((pl : Int) % ((t.length : Nat) + 1)))
      have l2 := cutS_le t (some ((pl : Int) % ((t.length : Nat) + 1) + 1)) none
      refine ⟨_, rfl, _, rfl, _, rfl, t, rfl, tl, _, rfl, _, rfl, _, _, rfl, rfl, _, rfl, t, rfl, tl, _, _, rfl, rfl, by rw [sizeLine_eq]; omega, q _ ⟨i, i + 1, [], ic, .inr rfl, Nat.zero_le _, (by intro x hx; cases hx), ?_⟩⟩
      rw [em1, em, cs_app, cs_to t il, cs_from t (i + 1), List.append_nil]
    refine decF c2 ⟨_, rfl, rfl, _, rfl, ?_⟩
    have e3 : decide (nv kd = V.int 3) = decide (kd = 3) := dec_nv kd 3
    rw [e3]
    by_cases c3 : kd = 3
    · refine decT c3 ?_
      refine ⟨_, rfl, _, rfl, _, rfl, t, rfl, tl, _, rfl, k, rfl, fun c hc => ?_⟩
      have l1 := cutS_le t none (some ((pl : Int) % ((t.length : Nat) + 1)))
      have l2 := cutS_le t (some ((pl : Int) % ((t.length : Nat) + 1) + 1)) none
      have lc : (⟨#[c]⟩ : Str).length = 1 := rfl
      refine ⟨_, _, rfl, rfl, by rw [lc, sizeLine_eq]; omega, _, rfl, _, rfl, _, _, rfl, rfl, _, rfl, t, rfl, tl, _, _, rfl, rfl, by rw [app_len, lc, sizeLine_eq]; omega, q _ ⟨i, i + 1, [c], ic, .inr rfl, Nat.le_refl _, (by intro x hx; rw [List.mem_singleton.mp hx]; exact .inl hc), ?_⟩⟩
      rw [em1, em, cs_app, cs_app, cs_to t il, cs_from t (i + 1)]
      rfl
    refine decF c3 ?_
    have l1 := cutS_le t none (some ((pl : Int) % ((t.length : Nat) + 1)))
    have l2 := cutS_le t (some ((pl : Int) % ((t.length : Nat) + 1))) (some ((pl : Int) % ((t.length : Nat) + 1) + 1))
    have l3 := cutS_le t (some ((pl : Int) % ((t.length : Nat) + 1))) none
    refine ⟨_, rfl, _, rfl, _, rfl, t, rfl, tl, _, rfl, _, rfl, _, rfl, _, rfl, _, _, rfl, rfl, _, rfl, t, rfl, tl, _, _, rfl, rfl, by rw [sizeLine_eq]; omega, _, rfl, _, rfl, _, rfl, t, rfl, tl, _, _, rfl, rfl, by rw [app_len, sizeLine_eq]; omega, q _ ⟨i, i, ((cs t).drop i).take 1, ic, .inl rfl, by rw [List.length_take]; omega, (fun x hx => .inr (List.mem_of_mem_drop (List.mem_of_mem_take hx))), ?_⟩⟩
    rw [em1, em, cs_app, cs_app, cs_to t il, cs_mid t i, cs_from t i]
end
section
variable {P : Program} {w : World} {K : PySem.W.Frag} {mg : Str → Option Value} {base : Heap}
/-! ### _law_number -/
def Good (s : Str) : Prop := ∀ c ∈ cs s, c < 1114112
def digits10 : List Nat := cs ("0123456789" : Str)
theorem digits10_eq : digits10 = [48, 49, 50, 51, 52, 53, 54, 55, 56, 57] := by decide +kernel
theorem mem_digits {c : Nat} : c ∈ digits10 ↔ 48 ≤ c ∧ c ≤ 57 := by
  rw [digits10_eq]
  simp only [List.mem_cons, List.not_mem_nil, or_false]
  omega
theorem cs_zero : cs ("0" : Str) = [48] := by decide +kernel
theorem cs_none : cs ("" : Str) = [] := by decide +kernel
theorem dpStrs {H : Hp} {a : Addr} {ws : List Str} (h : SqL K H a (ws.map V.str)) : Dp K H (.ref a) (.list (ws.map PyData.str)) := by
  refine .lst h ?_
  clear h
  induction ws with
  | nil => exact .nil
  | cons x ws ih => exact .cons (.str x) ih
theorem shStrs {ws : List Str} (h : ∀ w ∈ ws, Good w) : SeqAt.shaped (.list (ws.map PyData.str)) = true := by
  have a : PyData.canLayAll0 (ws.map PyData.str) = true := by
    induction ws with
    | nil => rfl
    | cons x ws ih =>
      have ok : PyData.strOk x = true := by
        unfold PyData.strOk
        exact Array.all_eq_true_iff_forall_mem.mpr fun c hc => decide_eq_true (h x List.mem_cons_self c (Array.mem_toList_iff.mpr hc))
      rw [List.map_cons, PyData.canLayAll0, ih fun w hw => h w (List.mem_cons_of_mem _ hw), PyData.canLay0, ok]
      rfl
  have b : PyData.depthAll (ws.map PyData.str) = 0 := by
    clear a h
    induction ws with
    | nil => rfl
    | cons x ws ih =>
      rw [List.map_cons, PyData.depthAll, ih]
      rfl
  unfold SeqAt.shaped
  rw [PyData.canLay0, a, PyData.depth, b]
  rfl
theorem eqStrs0 (ws : List Str) : PyData.eqv (.list (ws.map PyData.str)) (.list []) = decide (ws = []) := by
  rw [PyData.eqv]
  cases ws with
  | nil => rfl
  | cons x ws => rfl
theorem dgs_head {n : Nat} (h : n < 1000) {r : List Nat} (e : dgs n = 48 :: r) : r = [] := by
  unfold dgs at e
  split at e
  · exact (List.cons.inj e).2.symm
  · split at e
    · have := (List.cons.inj e).1
      omega
    · have := (List.cons.inj e).1
      omega
abbrev s_l_number : Stmt := top 31
theorem sc_l_number : FnScope ["_law_text_here", "_law_sign_here"] ["_law_text_here"] (defScope s_l_number) := ⟨rfl, rfl, rfl, by decide +kernel, rfl, by decide +kernel, by decide +kernel⟩

def spNumber : Sp := fun vs H Q _ => ∃ x : Str, vs = [.str x] ∧ x.length ≤ 1000 ∧ Good x ∧ (∀ n, n < 1000 → x = txN n → ∀ H' : Hp, Same H H' → Q (nv n) H') ∧ (¬ isN x → ∀ H' : Hp, Same H H' → Q .non H')
theorem ok_l_number {f : Addr} {fd : FuncData} (F : Fun K "_law_number" "_law_number" s_l_number f fd) (T : Blt mg) : FnOk P w K mg base CX0 1 f fd ["_law_text_here"] spNumber := by
  refine F.ok sc_l_number (fun vs H Q E h => ?_) (fun cdv A outer s H vs Q E hr h => ?_)
  · obtain ⟨x, rfl, _⟩ := h; rfl
  · obtain ⟨x, rfl, hl, hG, q1, q2⟩ := h
    have hu2 : (A.deeper (envOfC "_law_number" (defScope s_l_number) s.heap.objs.size f cdv)).units + 64 < cLine := by have := hr.un; omega
    have xl : x.length ≤ sizeLine := by rw [sizeLine_eq]; omega
    refine ⟨_, (pss_cons (ps_if (PW.pt (pw_or (pt_cmpR op_eq (pv 0) pe_str (nomark _)) (pw_or (pt_cmpR op_gt (pe_callB call_lenT (by rfl) T.len PySem.boot_len (pa_cons (pv 0) pa_nil)) pe_int (nomark _)) (pw_or1 (pt_cmpR (op_neD hu2) (pe_lc (own := [("_law_sign_here", 1)]) rfl sc_l_number.nd (pi_str (pv 0)) (blkOk_by (N := ["_law_text_here", "_law_sign_here"]) (sc := defScope s_l_number) (by decide +kernel)) (fun _ _ _ _ _ => (pg_name (i := 1) sc_l_number.nd rfl (.inl rfl))) (fun _ _ _ _ _ => (by exact (pts_one (pt_cmpR op_notIn_sign (pv 1) pe_str rfl)))) (fun _ _ _ _ _ => by exact (pv 1))) (pe_lst pa_nil) (nomark _)))))) (pss_one (ps_ret pe_non)) pss_nil)
    (pss_cons (ps_if (PW.pt (pw_and (pt_cmpR op_eq (pe_ix ix_str (pv 0) pe_int (fun _ _ => rfl)) pe_str (nomark _)) (pw_and1 (pt_cmpR op_ne (pv 0) pe_str (nomark _))))) (pss_one (ps_ret pe_non)) pss_nil)
    (pss_one (ps_ret (pe_callTy call_intS (by rfl) T.int (by decide +kernel) (pa_cons (pv 0) pa_nil)))))), ?_⟩
    refine ⟨_, rfl, rfl, _, rfl, ?_⟩
    by_cases c0 : x = ("" : Str)
    · have e : decide (V.str x = V.str "") = true := decide_eq_true (by rw [c0])
      rw [e]
      refine iteT (iteT (q2 (fun ⟨n, hn, h⟩ => ?_) H (Same.refl _)))
      have a := dgs_all n hn
      rw [← h, c0, cs_none] at a
      exact dgs_ne n a.symm
    have e : decide (V.str x = V.str "") = false := decide_eq_false fun h => c0 (V.str.inj h)
    rw [e]
    refine iteF ⟨_, rfl, x, rfl, xl, _, _, rfl, rfl, _, rfl, ?_⟩
    by_cases c1 : 3 < x.length
    · refine decT (by omega) (iteT (q2 (fun ⟨n, hn, h⟩ => ?_) H (Same.refl _)))
      have := txN_length hn
      rw [← h] at this
      split at this
      · omega
      · split at this <;> omega
    refine decF (by omega) ?_
    refine ⟨_, rfl, x, rfl, fun D nD => ?_⟩
    refine lc_it (walk_str (z := x)) (fun i H1 => Same H H1 ∧ H1 D = some (.lst (((((cs x).take i).filter fun c => !decide (c ∈ digits10)).map fun c => (⟨#[c]⟩ : Str)).map V.str))) ⟨same_upd nD, upd_same⟩ (fun i H1 _ _ => trivial) ?_ ?_
    · rintro i y H1 H2 hi ⟨s1, hD⟩ ⟨rfl, c, hc, rfl⟩
      have hcL : (cs x)[i]? = some c := by
        show x.cps.toList[i]? = some c
        rw [Array.getElem?_toList]
        exact hc
      refine ⟨rfl, _, rfl, c, _, rfl, rfl, _, rfl, ?_⟩
      have ed : decide (c ∈ ("0123456789" : Str).cps.toList) = decide (c ∈ digits10) := rfl
      by_cases m : c ∈ digits10
      · have e2 : (!decide (c ∈ ("0123456789" : Str).cps.toList)) = false := by rw [ed, decide_eq_true m]; rfl
        rw [e2]
        refine iteF ⟨s1, ?_⟩
        rw [hD, List.take_add_one, hcL]
        simp [List.filter_append, m]
      · have e2 : (!decide (c ∈ ("0123456789" : Str).cps.toList)) = true := by rw [ed, decide_eq_false m]; rfl
        rw [e2]
        have fl : (((cs x).take i).filter fun c => !decide (c ∈ digits10)).length ≤ x.length := by
          refine Nat.le_trans (List.length_filter_le _ _) ?_
          rw [List.length_take, cs_len]
          omega
        refine iteT ⟨_, rfl, _, hD, small64 (by rw [List.length_map, List.length_map]; omega), mutS s1 nD, ?_⟩
        rw [upd_same, List.take_add_one, hcL]
        simp [List.filter_append, m]
    · rintro H1 ⟨s1, hD⟩
      have tk : (cs x).take x.cps.size = cs x := List.take_of_length_le (Nat.le_refl _)
      rw [tk] at hD
      refine ⟨Nat.zero_le _, fun pz npz => ?_⟩
      have sz := same_upd (o := .lst []) npz
      have s2 := s1.trans sz
      refine ⟨_, _, dpStrs (SqL.of (sz _ _ hD)), dpStrs (ws := []) (SqL.of upd_same), shStrs ?_, shStrs (ws := []) (by intro w h; cases h), ?_⟩
      · intro w hw c hc
        obtain ⟨c', hc', rfl⟩ := List.mem_map.mp hw
        have : c = c' := List.mem_singleton.mp hc
        rw [this]
        exact hG c' (List.mem_filter.mp hc').1
      rw [show PyData.eqv (.list (((((cs x).filter fun c => !decide (c ∈ digits10)).map fun c => (⟨#[c]⟩ : Str)).map PyData.str))) (.list (([] : List Str).map PyData.str)) = decide ((((cs x).filter fun c => !decide (c ∈ digits10)).map fun c => (⟨#[c]⟩ : Str)) = []) from eqStrs0 _]
      refine ⟨_, rfl, ?_⟩
      by_cases ad : ∀ c ∈ cs x, c ∈ digits10
      · have e3 : (((cs x).filter fun c => !decide (c ∈ digits10)).map fun c => (⟨#[c]⟩ : Str)) = [] := by
          rw [List.map_eq_nil_iff, List.filter_eq_nil_iff]
          intro c hc
          simp [ad c hc]
        rw [e3]
        refine iteF ?_
        have hx0 : cs x ≠ [] := fun z => c0 (cs_inj (z.trans cs_none.symm))
        obtain ⟨c, r, hcr⟩ : ∃ c r, cs x = c :: r := by
          cases h : cs x with
          | nil => exact absurd h hx0
          | cons c r => exact ⟨c, r, rfl⟩
        have hd : ∀ c ∈ cs x, 48 ≤ c ∧ c ≤ 57 := fun c hc => mem_digits.mp (ad c hc)
        refine ⟨_, rfl, x, 0, c, rfl, rfl, xl, ?_, rfl, _, rfl, ?_⟩
        · have := atI_nat (xs := cs x) (j := 0) (v := c) (by rw [hcr]; rfl)
          exact this
        have ez : decide (V.str ⟨#[c]⟩ = V.str "0") = decide (c = 48) := by
          by_cases c8 : c = 48
          · rw [decide_eq_true c8, decide_eq_true (by rw [c8]; exact congrArg V.str (cs_inj cs_zero.symm))]
          · rw [decide_eq_false c8, decide_eq_false (fun h => c8 (by
              have := congrArg cs (V.str.inj h)
              rw [cs_zero] at this
              exact (List.cons.inj this).1))]
        rw [ez]
        have fin : (c ≠ 48 ∨ r = []) → ∀ H', Same H H' → tRet (tCB rIntS (tCons (tVar 0) tNil)) { nx := fun _ H' => Q .non H', rt := Q } (L2.start ["_law_text_here", "_law_sign_here"] [V.str x]) H' := fun hz H' s' => by
          obtain ⟨n, hn, ex⟩ := isN_of (w := x) hx0 hd (fun c' r' h => by rw [hcr] at h; obtain ⟨a, b⟩ := List.cons.inj h; rw [← a, ← b]; exact hz) (by omega)
          exact ⟨_, rfl, x, (n : Int), rfl, by rw [ex]; exact intText_all hn, by omega, q1 n hn ex H' s'⟩
        by_cases c8 : c = 48
        · refine decT c8 ⟨_, rfl, rfl, _, rfl, ?_⟩
          by_cases cz : x = ("0" : Str)
          · have e5 : (!decide (V.str x = V.str "0")) = false := by rw [decide_eq_true (by rw [cz])]; rfl
            rw [e5]
            exact iteF (fin (.inr (by
              rw [cz, cs_zero] at hcr
              exact (List.cons.inj hcr).2.symm)) _ s2)
          · have e5 : (!decide (V.str x = V.str "0")) = true := by rw [decide_eq_false (fun h => cz (V.str.inj h))]; rfl
            rw [e5]
            refine iteT (q2 (fun ⟨n, hn, h⟩ => ?_) _ s2)
            have a := dgs_all n hn
            rw [← h, hcr, c8] at a
            have := dgs_head hn a.symm
            exact cz (cs_inj (by rw [hcr, c8, this, cs_zero]))
        · exact decF c8 (fin (.inl c8) _ s2)
      · have e3 : ¬ (((cs x).filter fun c => !decide (c ∈ digits10)).map fun c => (⟨#[c]⟩ : Str)) = [] := by
          rw [List.map_eq_nil_iff, List.filter_eq_nil_iff]
          intro h
          refine ad fun c hc => ?_
          have := h c hc
          simpa using this
        rw [decide_eq_false e3]
        refine iteT (q2 (fun ⟨n, hn, h⟩ => ad fun c hc => ?_) _ s2)
        rw [h, dgs_all n hn] at hc
        exact mem_digits.mpr (dgs_dig hn c hc)
end
/-! ### the law's own reading of a text -/
theorem txA_ends {rs : List (List Nat)} : ∃ l, cs (txA rs) = 40 :: (l ++ [41]) := by
  by_cases h : rs = []
  · rw [h, txA_nil, cs_both]
    exact ⟨[], rfl⟩
  · exact ⟨_, cs_txA h⟩
theorem txA_no_blank {rs : List (List Nat)} (hx : ∀ x ∈ rs.flatten, x < 1000) : 32 ∉ cs (txA rs) := by
  intro hm
  by_cases h : rs = []
  · rw [h, txA_nil, cs_both] at hm
    simp at hm
  · rw [cs_txA h] at hm
    rcases List.mem_cons.mp hm with e | hm
    · omega
    · rcases List.mem_append.mp hm with hm | hm
      · rcases jn_mem hm with e | ⟨p, hp, e⟩
        · simp at e
        · obtain ⟨r, hr, rfl⟩ := List.mem_map.mp hp
          rcases bod_sign (fun x hxr => hx x (List.mem_flatten.mpr ⟨r, hr, hxr⟩)) e with e | ⟨e, _⟩
          · omega
          · omega
      · simp at hm
theorem Canon.words {t : Str} {im : List Nat} (C : Canon t im) : Txt.split t " " = [txN im.length, txA (rings (ap im) im.length)] := by
  have lt := C.lt
  obtain ⟨hI, h1, h2, rfl⟩ := C
  rw [s_blank]
  refine split_one (by simp) ?_ (by rw [cs_txW]; show _ = cs (txN im.length) ++ [32] ++ cs (txA (rings (ap im) im.length)); simp)
  intro w hw
  rcases List.mem_cons.mp hw with rfl | hw
  · exact no_blank h2
  · rw [List.mem_singleton.mp hw]
    exact txA_no_blank lt
theorem canon_of2 {t : Str} {im : List Nat} (hI : IsPerm im) (h1 : 1 ≤ im.length) (h2 : im.length < 1000) (ht : (txN im.length ++ (" " : Str)) ++ txA (rings (ap im) im.length) = t) : Canon t im := by
  refine ⟨hI, h1, h2, ?_⟩
  rw [← ht]
  apply cs_inj
  rw [cs_txW, cs_app, cs_app, cs_blank]
  simp
open Classical in
noncomputable def numO (w : Str) : Option Nat := if h : isN w then some h.choose else none
theorem numO_some {n : Nat} (h : n < 1000) : numO (txN n) = some n := by
  have hn : isN (txN n) := ⟨n, h, rfl⟩
  unfold numO
  rw [dif_pos hn]
  have := hn.choose_spec
  rw [← txN_inj h this.1 this.2]
theorem numO_none {w : Str} (h : ¬ isN w) : numO w = none := by
  unfold numO
  rw [dif_neg h]
def optV : Option Nat → V
  | some n => nv n
  | none => .non
/-- the numbers that words tell, if all of them tell one -/
theorem nums_of : ∀ {ws : List Str}, (∀ w ∈ ws, isN w) → ∃ r : List Nat, (∀ x ∈ r, x < 1000) ∧ ws = r.map txN
  | [], _ => ⟨[], (by intro x h; cases h), rfl⟩
  | w :: ws, h => by
    obtain ⟨n, hn, e⟩ := h w List.mem_cons_self
    obtain ⟨r, hr, e2⟩ := nums_of (ws := ws) fun x hx => h x (List.mem_cons_of_mem _ hx)
    refine ⟨n :: r, fun x hx => ?_, by rw [e, e2]; rfl⟩
    rcases List.mem_cons.mp hx with rfl | hx
    · exact hn
    · exact hr x hx
theorem optV_nums {r : List Nat} (h : ∀ x ∈ r, x < 1000) : ((r.map txN).map fun w => optV (numO w)) = r.map nv := by
  rw [List.map_map]
  refine List.map_congr_left fun x hx => ?_
  show optV (numO (txN x)) = nv x
  rw [numO_some (h x hx)]
  rfl
theorem dup_filter {r : List Nat} : ((List.range r.length).filter fun k => decide (r.getD k 0 ∈ r.take k)) = [] ↔ r.Nodup := by
  rw [List.filter_eq_nil_iff]
  constructor
  · intro h
    rw [List.nodup_iff_pairwise_ne, List.pairwise_iff_getElem]
    intro i j hi hj hij e
    have := h j (List.mem_range.mpr hj)
    refine this (decide_eq_true ?_)
    rw [List.getD_eq_getElem?_getD, List.getElem?_eq_getElem hj]
    show r[j] ∈ _
    rw [← e]
    exact List.mem_of_getElem? (by rw [List.getElem?_take_of_lt hij, List.getElem?_eq_getElem hi] : (r.take j)[i]? = some r[i])
  · intro nd k hk hm
    have hk := List.mem_range.mp hk
    have hm := of_decide_eq_true hm
    rw [List.getD_eq_getElem?_getD, List.getElem?_eq_getElem hk] at hm
    obtain ⟨i, hi⟩ := List.getElem?_of_mem (show r[k] ∈ r.take k from hm)
    have lk : i < k := by
      have := (List.getElem?_eq_some_iff.mp hi).1
      rw [List.length_take] at this
      omega
    rw [List.getElem?_take_of_lt lk] at hi
    obtain ⟨h1, h2⟩ := List.getElem?_eq_some_iff.mp hi
    have := (List.getElem_inj nd).mp h2
    omega
/-- the place ahead of number k in a ring -/
def prevs (r : List Nat) : List Nat := r.drop (r.length - 1) ++ r.take (r.length - 1)
theorem prevs_len (r : List Nat) : (prevs r).length = r.length := by
  unfold prevs
  rw [List.length_append, List.length_drop, List.length_take]
  omega
theorem prevs_perm (r : List Nat) : (prevs r).Perm r := by
  unfold prevs
  refine List.perm_append_comm.trans ?_
  rw [List.take_append_drop]
theorem prevs_get {r : List Nat} {k : Nat} (hk : k < r.length) : (prevs r)[k]? = r[(k + (r.length - 1)) % r.length]? := by
  unfold prevs
  by_cases c : k = 0
  · subst c
    rw [List.getElem?_append_left (by rw [List.length_drop]; omega), List.getElem?_drop, Nat.zero_add, Nat.mod_eq_of_lt (by omega)]
    rfl
  · rw [List.getElem?_append_right (by rw [List.length_drop]; omega), List.length_drop, List.getElem?_take_of_lt (by omega)]
    congr 1
    have e : k + (r.length - 1) = (k - 1) + r.length := by omega
    rw [e, Nat.add_mod_right, Nat.mod_eq_of_lt (by omega)]
    omega
theorem rot_get {r : List Nat} {k : Nat} (hk : k < r.length) : (rot r)[k]? = r[(k + 1) % r.length]? := by
  unfold rot
  by_cases c : k + 1 < r.length
  · rw [List.getElem?_append_left (by rw [List.length_drop]; omega), List.getElem?_drop, Nat.mod_eq_of_lt c, Nat.add_comm]
  · have e : k + 1 = r.length := by omega
    rw [List.getElem?_append_right (by rw [List.length_drop]; omega), List.length_drop, List.getElem?_take_of_lt (by omega), e, Nat.mod_self]
    congr 1
    omega
theorem next_prev {im r : List Nat} (nd : r.Nodup) {k p x : Nat} (hp : (prevs r)[k]? = some p) (hx : r[k]? = some x) : nextIn im r p = x := by
  have hk := (List.getElem?_eq_some_iff.mp hx).1
  rw [prevs_get hk] at hp
  have a := nextIn_get (im := im) nd hp
  have hj : (k + (r.length - 1)) % r.length < r.length := Nat.mod_lt _ (by omega)
  rw [rot_get hj] at a
  have e : ((k + (r.length - 1)) % r.length + 1) % r.length = k := by
    rw [Nat.mod_add_mod, show k + (r.length - 1) + 1 = k + r.length by omega, Nat.add_mod_right, Nat.mod_eq_of_lt hk]
  rw [e, hx] at a
  exact (Option.some.inj a).symm
/-- the places k of a ring are led on already -/
def stepIm (im r : List Nat) (k : Nat) : List Nat := (List.range im.length).map fun x => if x ∈ (prevs r).take k then nextIn im r x else ap im x
theorem stepIm_len (im r : List Nat) (k : Nat) : (stepIm im r k).length = im.length := by
  unfold stepIm
  rw [List.length_map, List.length_range]
theorem stepIm_zero (im r : List Nat) : stepIm im r 0 = im := by
  unfold stepIm
  have : ∀ x, (if x ∈ (prevs r).take 0 then nextIn im r x else ap im x) = ap im x := fun x => by rw [List.take_zero]; exact if_neg (by simp)
  rw [List.map_congr_left fun x _ => this x]
  exact im_eq im
theorem stepIm_all (im r : List Nat) : stepIm im r r.length = (List.range im.length).map (nextIn im r) := by
  unfold stepIm
  refine List.map_congr_left fun x _ => ?_
  rw [← prevs_len r, List.take_length]
  by_cases m : x ∈ prevs r
  · rw [if_pos m]
  · rw [if_neg m]
    unfold nextIn
    rw [if_neg fun h => m ((prevs_perm r).mem_iff.mpr h)]
theorem stepIm_succ {im r : List Nat} (nd : r.Nodup) (hlt : ∀ x ∈ r, x < im.length) {k p x : Nat} (hp : (prevs r)[k]? = some p) (hx : r[k]? = some x) : stepIm im r (k + 1) = (stepIm im r k).set p x := by
  have pr : p ∈ r := (prevs_perm r).mem_iff.mp (List.mem_of_getElem? hp)
  have pl := hlt p pr
  apply List.ext_getElem?
  intro i
  by_cases hi : i < im.length
  · have g : ∀ j, (stepIm im r j)[i]? = some (if i ∈ (prevs r).take j then nextIn im r i else ap im i) := fun j => by
      unfold stepIm
      rw [List.getElem?_map, List.getElem?_range hi]
      rfl
    rw [g]
    by_cases e : i = p
    · subst e
      rw [List.getElem?_set_self (by rw [stepIm_len]; exact hi)]
      have m : i ∈ (prevs r).take (k + 1) := by rw [List.take_add_one, hp]; simp
      rw [if_pos m, next_prev nd hp hx]
    · rw [List.getElem?_set_ne (fun h => e h.symm), g]
      have m : i ∈ (prevs r).take (k + 1) ↔ i ∈ (prevs r).take k := by
        rw [List.take_add_one, hp]
        simp [e]
      by_cases mk : i ∈ (prevs r).take k
      · rw [if_pos mk, if_pos (m.mpr mk)]
      · rw [if_neg mk, if_neg fun h => mk (m.mp h)]
  · rw [List.getElem?_eq_none (by rw [stepIm_len]; omega), List.getElem?_eq_none (by rw [List.length_set, stepIm_len]; omega)]
section
variable {X : Cx} {st : Stmt} {t : TS}
/-- the statement, and what holds behind it whichever way it went -/
def tJoin (t : TS) : TS := fun D σ H => ∃ J : L2.St → Hp → Prop, t { D with nx := J } σ H ∧ ∀ σ' H', J σ' H' → D.nx σ' H'
theorem ps_join (h : PS X st t) : PS X st (tJoin t) := by
  refine ⟨fun pins s σ H D I hw => ?_⟩
  obtain ⟨J, ht, hj⟩ := hw
  refine wpAny_mono (h.run pins s σ H { D with nx := J } I ht) (fun fl s1 sp => ?_) fun _ _ z => z
  match fl, sp with
  | .next, ⟨σ', H', I', q⟩ => exact ⟨σ', H', I', hj σ' H' q⟩
  | .brk, sp => exact sp
  | .cont, sp => exact sp
  | .ret u, sp => exact sp
end
theorem dec_nn (a b : Nat) : (!decide (nv a = nv b)) = decide (a ≠ b) := by
  rw [dec_nv]
  by_cases c : a = b
  · simp [c]
  · simp [c]
theorem dec_str (a b : Str) : (!decide (V.str a = V.str b)) = decide (a ≠ b) := by
  by_cases c : a = b
  · rw [decide_eq_true (by rw [c]), decide_eq_false (fun h => h c)]
    rfl
  · rw [decide_eq_false (fun h => c (V.str.inj h)), decide_eq_true c]
    rfl
theorem cs_first (t : Str) : cs (cutS t none (some 1)) = (cs t).take 1 := by
  show (((cs t).drop (HT.sIx t.length 0 none)).take (HT.sIx t.length t.length (some ((1 : Nat) : Int)) - HT.sIx t.length 0 none)) = _
  rw [HT.sIx_nat, HT.sIx_none, List.drop_zero, Nat.sub_zero]
  by_cases c : 1 ≤ t.length
  · rw [Nat.min_eq_left c]
  · rw [Nat.min_eq_right (by omega), List.take_of_length_le (by rw [cs_len]; exact Nat.le_refl _), List.take_of_length_le (by rw [cs_len]; omega)]
theorem cs_last (t : Str) : cs (cutS t (some (-1)) none) = (cs t).drop (t.length - 1) := by
  show (((cs t).drop (HT.sIx t.length 0 (some (-1)))).take (HT.sIx t.length t.length none - HT.sIx t.length 0 (some (-1)))) = _
  have e : HT.sIx t.length 0 (some (-1)) = t.length - 1 := by
    unfold HT.sIx
    simp
    omega
  rw [HT.sIx_none, e, List.take_of_length_le (by rw [List.length_drop, cs_len]; exact Nat.le_refl _)]
theorem ends_of {r : Str} (h1 : cutS r none (some 1) = ("(" : Str)) (h2 : cutS r (some (-1)) none = (")" : Str)) : ∃ l, cs r = 40 :: (l ++ [41]) := by
  have a := congrArg cs h1
  have b := congrArg cs h2
  rw [cs_first, cs_open] at a
  rw [cs_last, cs_close] at b
  cases e : cs r with
  | nil => rw [e] at a; cases a
  | cons x l =>
    rw [e] at a b
    have ex : x = 40 := (List.cons.inj a).1
    subst ex
    have len : r.length = l.length + 1 := by rw [← cs_len, e]; rfl
    rw [len] at b
    cases l with
    | nil => simp at b
    | cons y l =>
      refine ⟨(y :: l).take l.length, ?_⟩
      have b : (y :: l).drop l.length = [41] := by
        have e3 : (y :: l).length + 1 - 1 = l.length + 1 := by simp
        rw [e3] at b
        exact b
      rw [← b, List.take_append_drop]
theorem ends_to {r : Str} {l : List Nat} (h : cs r = 40 :: (l ++ [41])) : cutS r none (some 1) = ("(" : Str) ∧ cutS r (some (-1)) none = (")" : Str) := by
  refine ⟨cs_inj ?_, cs_inj ?_⟩
  · rw [cs_first, h, cs_open]
    rfl
  · have len : r.length = l.length + 2 := by rw [← cs_len, h]; simp
    rw [cs_last, h, cs_close, len]
    show (40 :: (l ++ [41])).drop (l.length + 1) = _
    simp
theorem cutV_from (xs : List V) (n : Nat) : cutV xs (some (n : Int)) none = xs.drop n := by
  unfold cutV
  rw [HT.sIx_nat, HT.sIx_none]
  by_cases c : n ≤ xs.length
  · rw [Nat.min_eq_left c, List.take_of_length_le (by rw [List.length_drop]; exact Nat.le_refl _)]
  · rw [Nat.min_eq_right (by omega), List.drop_eq_nil_of_le (Nat.le_refl _), List.drop_eq_nil_of_le (by omega), List.take_nil]
theorem cutV_to (xs : List V) (n : Nat) : cutV xs none (some (n : Int)) = xs.take n := by
  unfold cutV
  rw [HT.sIx_nat, HT.sIx_none, List.drop_zero, Nat.sub_zero]
  by_cases c : n ≤ xs.length
  · rw [Nat.min_eq_left c]
  · rw [Nat.min_eq_right (by omega), List.take_of_length_le (Nat.le_refl _), List.take_of_length_le (by omega)]
section
variable {P : Program} {w : World} {K : PySem.W.Frag} {mg : Str → Option Value} {base : Heap}
/-! ### _law_images_of -/
def ttBad (K : PySem.W.Frag) : TT := tOr (tTest (tOp (rI0 fun i j => .bl (decide (j ≤ i))) (tVar 8) (tCB (rLenS K) (tCons (tVar 2) tNil)))) (tTest (tOp rNe (tOp (rIxL K) (tVar 2) (tVar 8)) (tVar 8)))
theorem str_get {ws : List Str} {i : Nat} {y : V} (h : (ws.map V.str)[i]? = some y) : ∃ x, ws[i]? = some x ∧ y = V.str x := by
  rw [List.getElem?_map] at h
  cases e : ws[i]? with
  | none => rw [e] at h; cases h
  | some x => rw [e] at h; exact ⟨x, rfl, (Option.some.inj h).symm⟩
theorem good_split {t y : Str} (h : Good t) : ∀ w ∈ Txt.split t y, Good w := by
  intro w hw c hc
  refine h c ?_
  rw [cs_split t y]
  have : ∀ ps : List (List Nat), cs w ∈ ps → c ∈ jn (cs y) ps := by
    intro ps
    induction ps with
    | nil => intro hm; cases hm
    | cons p ps ih =>
      intro hm
      cases ps with
      | nil =>
        rw [List.mem_singleton.mp hm] at hc
        exact hc
      | cons q r =>
        show c ∈ p ++ cs y ++ jn (cs y) (q :: r)
        rcases List.mem_cons.mp hm with e | hm
        · rw [e] at hc
          exact List.mem_append_left _ (List.mem_append_left _ hc)
        · exact List.mem_append_right _ (ih hm)
  exact this _ (List.mem_map.mpr ⟨w, hw, rfl⟩)
theorem good_inn {t : Str} (h : Good t) : Good (inn t) := fun c hc => h c (List.mem_of_mem_drop (List.mem_of_mem_take hc))
theorem flat_optV (l : List (Option Nat)) : (l.map optV).all flatV = true := by
  rw [List.all_eq_true]
  intro v hv
  obtain ⟨o, _, rfl⟩ := List.mem_map.mp hv
  cases o <;> rfl
theorem inV_non {ws : List Str} : inV .non (ws.map fun w => optV (numO w)) = true ↔ ∃ w ∈ ws, ¬ isN w := by
  unfold inV
  rw [List.any_eq_true]
  constructor
  · rintro ⟨v, hv, e⟩
    obtain ⟨w, hw, rfl⟩ := List.mem_map.mp hv
    refine ⟨w, hw, fun ⟨n, hn, ew⟩ => ?_⟩
    rw [ew, numO_some hn] at e
    cases e
  · rintro ⟨w, hw, h⟩
    exact ⟨_, List.mem_map.mpr ⟨w, hw, rfl⟩, by rw [numO_none h]; rfl⟩
theorem flat_nv (l : List Nat) : (l.map nv).all flatV = true := by
  rw [List.all_eq_true]
  intro v hv
  obtain ⟨o, _, rfl⟩ := List.mem_map.mp hv
  rfl
theorem nodup_of_mem_flatten {rs : List (List Nat)} (h : rs.flatten.Nodup) {q : List Nat} (hq : q ∈ rs) : q.Nodup := by
  induction rs with
  | nil => cases hq
  | cons r rs ih =>
    rw [List.flatten_cons] at h
    have := List.nodup_append.mp h
    rcases List.mem_cons.mp hq with rfl | hq
    · exact this.1
    · exact ih this.2.1 hq
theorem not_mem_take {rs : List (List Nat)} (h : rs.flatten.Nodup) {i : Nat} {q : List Nat} (hq : rs[i]? = some q) {x : Nat} (hx : x ∈ q) : x ∉ (rs.take i).flatten := by
  intro hm
  have e : rs = rs.take i ++ q :: rs.drop (i + 1) := by
    obtain ⟨hlt, e⟩ := List.getElem?_eq_some_iff.mp hq
    rw [← e, ← List.drop_eq_getElem_cons hlt, List.take_append_drop]
  rw [e, List.flatten_append, List.flatten_cons] at h
  exact (List.nodup_append.mp h).2.2 x hm x (List.mem_append_left _ hx) rfl
theorem atI_prev {q : List Nat} {k p : Nat} (hk : k < q.length) (hp : (prevs q)[k]? = some p) : atI (q.map nv) ((k : Int) - 1) = some (nv p) := by
  rw [prevs_get hk] at hp
  by_cases c : k = 0
  · subst c
    rw [Nat.zero_add, Nat.mod_eq_of_lt (by omega)] at hp
    have e : q = q.take (q.length - 1) ++ [p] := by
      have := List.take_add_one (l := q) (i := q.length - 1)
      rw [hp, show q.length - 1 + 1 = q.length by omega, List.take_length] at this
      exact this
    rw [e, List.map_append]
    exact atI_last _ _
  · have e : k + (q.length - 1) = (k - 1) + q.length := by omega
    rw [e, Nat.add_mod_right, Nat.mod_eq_of_lt (by omega)] at hp
    rw [show (k : Int) - 1 = ((k - 1 : Nat) : Int) by omega]
    exact atI_nat (nv_get hp)
theorem eqI0 (l : List Nat) : (!PyData.eqv (.list (l.map fun (x : Nat) => PyData.int x)) (.list (([] : List Nat).map fun (x : Nat) => PyData.int x))) = decide (l ≠ []) := by
  rw [eqI]
  by_cases c : l = []
  · simp [c]
  · simp [c]
abbrev s_l_images_of : Stmt := top 32
theorem sc_l_images_of : FnScope ["_law_text_here", "_law_words", "_law_images", "_law_bodies", "_law_body", "_law_ring", "_law_k", "_law_word", "_law_place"] ["_law_text_here"] (defScope s_l_images_of) := ⟨rfl, rfl, rfl, by decide +kernel, rfl, by decide +kernel, by decide +kernel⟩

def spImagesOf : Sp := fun vs H Q _ => ∃ t : Str, vs = [.str t] ∧ t.length ≤ 600 ∧ Good t ∧
  (∀ im, Canon t im → ∀ (o : Addr) (H' : Hp), Same H H' → H o = none → H' o = some (.lst (im.map nv)) → Q (.ref o) H') ∧ ((¬ ∃ im, Canon t im) → ∀ H' : Hp, Same H H' → Q .non H')
set_option maxHeartbeats 1000000 in
theorem ok_l_images_of {f : Addr} {fd : FuncData} (F : Fun K "_law_images_of" "_law_images_of" s_l_images_of f fd) (T : Blt mg) (str : mg "str" = none) (D_l_number : DefOk P w K mg base CX0 1 "_law_number" ["_law_text_here"] [] spNumber)
    (D_l_text : DefOk P w K mg base CX0 1 "_law_text" ["_law_rings_here"] [] (spText K)) (D_l_rings : DefOk P w K mg base CX0 1 "_law_rings" ["_law_images"] [] (spRings K)) : FnOk P w K mg base CX0 2 f fd ["_law_text_here"] spImagesOf := by
  refine F.ok sc_l_images_of (fun vs H Q E h => ?_) (fun cdv A outer s H vs Q E hr h => ?_)
  · obtain ⟨t, rfl, _⟩ := h; rfl
  · obtain ⟨t, rfl, tl, tG, q1, q2⟩ := h
    have hu2 : (A.deeper (envOfC "_law_images_of" (defScope s_l_images_of) s.heap.objs.size f cdv)).units + 64 < cLine := by have := hr.un; omega
    refine ⟨_, (pss_cons (ps_set (i := 1) sc_l_images_of.nd rfl (.inl rfl) (pe_split (pv 0) pe_str))
    (pss_cons (ps_if (PW.pt (pw_or (pt_cmpR op_ne (pe_callB call_lenS (by rfl) T.len PySem.boot_len (pa_cons (pv 1) pa_nil)) pe_int (nomark _)) (pw_or1 (pt_cmpR op_isN (pe_d D_l_number hr pass0 (pa_cons (pe_ix ix_list (pv 1) pe_int (fun _ _ => rfl)) pa_nil)) pe_non (nomark _))))) (pss_one (ps_ret pe_non)) pss_nil)
    (pss_cons (ps_if (PW.pt (pw_or (pt_cmpR op_ne (pe_slice sl_str (pe_ix ix_list (pv 1) pe_int (fun _ _ => rfl)) po_none (po_some pe_int)) pe_str (nomark _)) (pw_or1 (pt_cmpR op_ne (pe_slice sl_str (pe_ix ix_list (pv 1) pe_int (fun _ _ => rfl)) (po_some (pe_un un_neg pe_int)) po_none) pe_str (nomark _))))) (pss_one (ps_ret pe_non)) pss_nil)
    (pss_cons (ps_set (i := 2) sc_l_images_of.nd rfl (.inr rfl) (pe_listRg rfl (by rfl) T.list (prg_1 (by rfl) T.range (pe_d D_l_number hr pass0 (pa_cons (pe_ix ix_list (pv 1) pe_int (fun _ _ => rfl)) pa_nil)))))
    (pss_cons (ps_set (i := 3) sc_l_images_of.nd rfl (.inl rfl) (pe_split (pe_slice sl_str (pe_ix ix_list (pv 1) pe_int (fun _ _ => rfl)) (po_some pe_int) (po_some (pe_un un_neg pe_int))) pe_str))
    (pss_cons (ps_join (ps_if (pt_cmpR op_eq (pe_ix ix_list (pv 1) pe_int (fun _ _ => rfl)) pe_str (nomark _)) (pss_one (ps_set (i := 3) sc_l_images_of.nd rfl (.inl rfl) (pe_lst pa_nil))) pss_nil))
    (pss_cons (ps_for PassesOwn.never rfl (pi_list (pv 3)) (pg_name (i := 4) sc_l_images_of.nd rfl (.inl rfl)) (pss_cons (ps_set (i := 5) sc_l_images_of.nd rfl (.inr rfl) (pe_lc (own := [("_law_word", 7)]) (tt := tYes) rfl sc_l_images_of.nd (pi_list (pe_split (pv 4) pe_str)) (blkOk_by (N := ["_law_text_here", "_law_words", "_law_images", "_law_bodies", "_law_body", "_law_ring", "_law_k", "_law_word", "_law_place"]) (sc := defScope s_l_images_of) (by decide +kernel)) (fun _ _ _ _ _ => (pg_name (i := 7) sc_l_images_of.nd rfl (.inl rfl))) (fun _ _ _ _ _ => pts_nil) (fun _ _ _ _ _ => by exact (pe_d D_l_number hr pass0 (pa_cons (pv 7) pa_nil)))))
    (pss_cons (ps_if (PW.pt (pw_or (pt_cmpR op_in_seq pe_non (pv 5) rfl) (pw_or1 (pt_cmpR (op_neD hu2) (pe_lc (own := [("_law_k", 6)]) (tt := tTest (tOp (rIn K false) (tOp (rIxL K) (tVar 5) (tVar 6)) (tSl (rSlL K) (tVar 5) tNoPart (tPart (tVar 6))))) rfl sc_l_images_of.nd (pi_range1 (by rfl) T.range (pa_cons (pe_callB call_lenS (by rfl) T.len PySem.boot_len (pa_cons (pv 5) pa_nil)) pa_nil)) (blkOk_by (N := ["_law_text_here", "_law_words", "_law_images", "_law_bodies", "_law_body", "_law_ring", "_law_k", "_law_word", "_law_place"]) (sc := defScope s_l_images_of) (by decide +kernel)) (fun _ _ _ _ _ => (pg_name (i := 6) sc_l_images_of.nd rfl (.inl rfl))) (fun _ _ _ _ _ => (by exact (pts_one (pt_cmpR op_in_seq (pe_ix ix_list (pv 5) (pv 6) (fun _ _ => rfl)) (pe_slice sl_list (pv 5) po_none (po_some (pv 6))) rfl)))) (fun _ _ _ _ _ => by exact (pv 6))) (pe_lst pa_nil) (nomark _))))) (pss_one (ps_ret pe_non)) pss_nil)
    (pss_cons (ps_if (pt_cmpR (op_neD hu2) (pe_lc (own := [("_law_place", 8)]) (tt := ttBad K) rfl sc_l_images_of.nd (pi_list (pv 5)) (blkOk_by (N := ["_law_text_here", "_law_words", "_law_images", "_law_bodies", "_law_body", "_law_ring", "_law_k", "_law_word", "_law_place"]) (sc := defScope s_l_images_of) (by decide +kernel)) (fun _ _ _ _ _ => (pg_name (i := 8) sc_l_images_of.nd rfl (.inl rfl))) (fun _ _ _ _ _ => (by exact (pts_one (PW.pt (pw_or (pt_cmpR op_ge (pv 8) (pe_callB call_lenS (by rfl) T.len PySem.boot_len (pa_cons (pv 2) pa_nil)) (nomark _)) (pw_or1 (pt_cmpR op_ne (pe_ix ix_list (pv 2) (pv 8) (fun _ _ => rfl)) (pv 8) (nomark _)))))))) (fun _ _ _ _ _ => by exact (pv 8))) (pe_lst pa_nil) (nomark _)) (pss_one (ps_ret pe_non)) pss_nil)
    (pss_one (ps_for PassesOwn.never rfl (pi_range1 (by rfl) T.range (pa_cons (pe_callB call_lenS (by rfl) T.len PySem.boot_len (pa_cons (pv 5) pa_nil)) pa_nil)) (pg_name (i := 6) sc_l_images_of.nd rfl (.inl rfl)) (pss_one (ps_asg (pe_ix ix_list (pv 5) (pv 6) (fun _ _ => rfl)) (pg_sub (pv 2) (pe_ix ix_list (pv 5) (pe_op op_sub (pv 6) pe_int) (fun _ _ => rfl)) set_list)))))))))
    (pss_cons (ps_if (PW.pt (pw_or (pt_cmpR (op_eqD hu2) (pv 2) (pe_lst pa_nil) (nomark _)) (pw_or1 (pt_cmpR op_ne (pe_op op_addS (pe_op op_addS (pe_callTy call_strI (by rfl) str (by decide +kernel) (pa_cons (pe_callB call_lenS (by rfl) T.len PySem.boot_len (pa_cons (pv 2) pa_nil)) pa_nil)) pe_str) (pe_d D_l_text hr pass0 (pa_cons (pe_d D_l_rings hr pass0 (pa_cons (pv 2) pa_nil)) pa_nil))) (pv 0) (nomark _))))) (pss_one (ps_ret pe_non)) pss_nil)
    (pss_one (ps_ret (pv 2))))))))))), ?_⟩
    refine ⟨_, rfl, ⟨_, rfl⟩, t, " ", rfl, rfl, by decide +kernel, by rw [sizeLine_eq]; omega, fun W nW => ?_⟩
    have sW := same_upd (o := .lst ((Txt.split t " ").map V.str)) nW
    have hW : (upd H W (.lst ((Txt.split t " ").map V.str))) W = some (.lst ((Txt.split t " ").map V.str)) := upd_same
    generalize upd H W (.lst ((Txt.split t " ").map V.str)) = H1 at sW hW ⊢
    refine ⟨_, rfl, W, _, rfl, .inl (SqL.of hW), rfl, _, rfl, ?_⟩
    have e2 : (!decide (V.int (((Txt.split t " ").map V.str).length : Nat) = V.int 2)) = decide ((Txt.split t " ").length ≠ 2) := by
      rw [List.length_map]
      exact dec_nn _ 2
    rw [e2]
    by_cases c0 : (Txt.split t " ").length ≠ 2
    · exact decT c0 (iteT (q2 (fun ⟨im, C⟩ => c0 (by rw [C.words]; rfl)) H1 sW))
    refine decF c0 ?_
    obtain ⟨d, r, hdr⟩ : ∃ d r, Txt.split t " " = [d, r] := match Txt.split t " ", Classical.not_not.mp c0 with | [d, r], _ => ⟨d, r, rfl⟩
    rw [hdr] at hW
    have gd := good_split (y := " ") tG
    rw [hdr] at gd
    have hdG := gd d (by simp)
    have hrG := gd r (by simp)
    have lsum := split_len1 t 32
    rw [← s_blank, hdr] at lsum
    have lsum : d.length + (r.length + 0) + 2 = t.length + 1 := lsum
    have ofC : ∀ im, Canon t im → d = txN im.length ∧ r = txA (rings (ap im) im.length) := fun im C => by
      have := C.words
      rw [hdr] at this
      obtain ⟨a, b⟩ := List.cons.inj this
      exact ⟨a, (List.cons.inj b).1⟩
    refine ⟨_, rfl, W, _, 0, V.str d, rfl, rfl, SqL.of hW, atI_nat (j := 0) rfl, d, rfl, by omega, hdG, ?_⟩
    refine ⟨fun n hn hd H2 s2 => ?_, fun hno H2 s2 => ?_⟩
    rotate_left
    · refine ⟨rfl, _, rfl, ?_⟩
      have en : decide (V.non = V.non) = true := decide_eq_true rfl
      rw [en]
      refine iteT ?_
      exact q2 (fun ⟨im, C⟩ => hno ⟨im.length, C.2.2.1, (ofC im C).1⟩) H2 (sW.trans s2)
    refine ⟨rfl, _, rfl, ?_⟩
    have en : decide (nv n = V.non) = false := decide_eq_false fun h => by cases h
    rw [en]
    refine iteF ?_
    have hW2 := s2 _ _ hW
    have rl : r.length ≤ sizeLine := by rw [sizeLine_eq]; omega
    refine ⟨_, rfl, W, _, 1, V.str r, rfl, rfl, SqL.of hW2, atI_nat (j := 1) rfl, ?_⟩
    refine ⟨_, rfl, r, rfl, rl, rfl, _, rfl, ?_⟩
    rw [dec_str]
    by_cases c1 : cutS r none (some 1) ≠ ("(" : Str)
    · refine decT c1 (iteT (q2 (fun ⟨im, C⟩ => c1 ?_) H2 (sW.trans s2)))
      obtain ⟨l, hl⟩ := txA_ends (rs := rings (ap im) im.length)
      rw [← (ofC im C).2] at hl
      exact (ends_to hl).1
    refine decF c1 ⟨_, rfl, W, _, 1, V.str r, rfl, rfl, SqL.of hW2, atI_nat (j := 1) rfl, _, rfl, _, rfl, r, rfl, rl, rfl, _, rfl, ?_⟩
    rw [dec_str]
    by_cases c2 : cutS r (some (-1)) none ≠ (")" : Str)
    · refine decT c2 (q2 (fun ⟨im, C⟩ => c2 ?_) H2 (sW.trans s2))
      obtain ⟨l, hl⟩ := txA_ends (rs := rings (ap im) im.length)
      rw [← (ofC im C).2] at hl
      exact (ends_to hl).2
    refine decF c2 ?_
    obtain ⟨li, hli⟩ := ends_of (Classical.not_not.mp c1) (Classical.not_not.mp c2)
    -- images
    refine ⟨_, rfl, W, _, 0, V.str d, rfl, rfl, SqL.of hW2, atI_nat (j := 0) rfl, d, rfl, by omega, hdG, fun n' hn' hd' H3 s3 => ?_, fun hno => absurd ⟨n, hn, hd⟩ hno⟩
    have en : n' = n := txN_inj hn' hn (hd'.symm.trans hd)
    subst en
    refine ⟨_, rfl, RgOk.of_le (by omega) (by omega) (by omega) (by omega), fun I nI => ?_⟩
    rw [rgV_nat]
    have sI := same_upd (o := .lst ((List.range n').map nv)) nI
    have hI0 : (upd H3 I (.lst ((List.range n').map nv))) I = some (.lst ((List.range n').map nv)) := upd_same
    have nI0 : H I = none := (sW.trans s2).free (s3.free nI)
    generalize upd H3 I (.lst ((List.range n').map nv)) = H4 at sI hI0 ⊢
    have hW4 := sI _ _ (s3 _ _ hW2)
    have s04 := (sW.trans s2).trans (s3.trans sI)
    -- bodies
    have il := inn_len r
    refine ⟨_, rfl, W, _, 1, V.str r, rfl, rfl, SqL.of hW4, atI_nat (j := 1) rfl, _, rfl, _, rfl, _, rfl, r, rfl, rl, ⟨_, rfl⟩, inn r, ")(", rfl, rfl, by decide +kernel, by rw [sizeLine_eq]; omega, fun B nB => ?_⟩
    have sB := same_upd (o := .lst ((Txt.split (inn r) ")(").map V.str)) nB
    have hB : (upd H4 B (.lst ((Txt.split (inn r) ")(").map V.str))) B = some (.lst ((Txt.split (inn r) ")(").map V.str)) := upd_same
    generalize upd H4 B (.lst ((Txt.split (inn r) ")(").map V.str)) = H5 at sB hB ⊢
    refine ⟨fun σ H' => ∃ (B' : Addr) (bs : List Str), σ = [some (.str t), some (.ref W), some (.ref I), some (.ref B'), none, none, none, none, none] ∧ Same H5 H' ∧ B' ≠ I ∧ H' B' = some (.lst (bs.map V.str)) ∧ ((r = ("()" : Str) ∧ bs = []) ∨ (r ≠ ("()" : Str) ∧ bs = Txt.split (inn r) ")(")), ?_, ?_⟩
    · refine ⟨_, rfl, W, _, 1, V.str r, rfl, rfl, SqL.of (sB _ _ hW4), atI_nat (j := 1) rfl, rfl, _, rfl, ?_⟩
      by_cases c3 : r = ("()" : Str)
      · have e : decide (V.str r = V.str "()") = true := decide_eq_true (by rw [c3])
        rw [e]
        refine iteT ⟨Nat.zero_le _, fun p np => ⟨p, [], rfl, same_upd np, fun e => ?_, upd_same, .inl ⟨c3, rfl⟩⟩⟩
        rw [e, sB _ _ hI0] at np
        cases np
      · have e : decide (V.str r = V.str "()") = false := decide_eq_false fun h => c3 (V.str.inj h)
        rw [e]
        refine iteF ⟨B, _, rfl, Same.refl _, fun e => ?_, hB, .inr ⟨c3, rfl⟩⟩
        rw [e, hI0] at nB
        cases nB
    rintro σ H6 ⟨B', bs, rfl, s6, BI, hB', hbs⟩
    have s06 := s04.trans (sB.trans s6)
    have hI6 := s6 _ _ (sB _ _ hI0)
    have hno : H I = none := nI0
    have nC : ∀ im0, Canon t im0 → im0.length = n' := fun im0 C => txN_inj C.2.2.1 hn ((ofC im0 C).1.symm.trans hd)
    have nBl : bs.length ≤ 700 := by
      rcases hbs with ⟨_, e⟩ | ⟨_, e⟩
      · rw [e]; show 0 ≤ 700; omega
      · rw [e]
        have := (bodies_len r).1
        omega
    have few9 : n' < 1000 := hn
    refine ⟨_, rfl, B', rfl, ⟨_, SqL.of hB'⟩, for_list (K := K) (a := B') (xs := bs.map V.str) (fun i σ H' => ∃ (v4 v5 v6 : Option V) (im : List Nat), σ = [some (.str t), some (.ref W), some (.ref I), some (.ref B'), v4, v5, v6, none, none] ∧ (∀ c u, H6 c = some u → c ≠ I → H' c = some u) ∧
        H' I = some (.lst (im.map nv)) ∧ IsPerm im ∧ im.length = n' ∧ ∀ im0, Canon t im0 → RingsOf (ap im) n' ((rings (ap im0) n').take i))
      ⟨none, none, none, List.range n', rfl, fun c u h _ => h, hI6, isPerm_range n', List.length_range, fun im0 _ => by have := ringsOf_none n'; rw [List.length_range] at this; exact this⟩ (fun i σ H' _ ⟨_, _, _, _, _, hk, _⟩ => SqL.of (hk _ _ hB' BI)) ?_ ?_⟩
    · intro i y σ H7 hi hh
      obtain ⟨v4, v5, v6, im, rfl, hk, hI7, hP, hlen, hC⟩ := hh
      obtain ⟨b, hb, rfl⟩ := str_get hi
      have hrb : r ≠ ("()" : Str) ∧ bs = Txt.split (inn r) ")(" := by
        rcases hbs with ⟨_, e⟩ | h
        · rw [e] at hb; cases hb
        · exact h
      have bl := (bodies_len r).2 b (by rw [← hrb.2]; exact List.mem_of_getElem? hb)
      have bG : Good b := good_split (good_inn hrG) b (by rw [← hrb.2]; exact List.mem_of_getElem? hb)
      refine ⟨_, rfl, ⟨_, rfl⟩, b, ",", rfl, rfl, by decide +kernel, by rw [sizeLine_eq]; omega, fun L nL => ?_⟩
      have sL := same_upd (o := .lst ((Txt.split b ",").map V.str)) nL
      have hL : (upd H7 L (.lst ((Txt.split b ",").map V.str))) L = some (.lst ((Txt.split b ",").map V.str)) := upd_same
      refine ⟨L, rfl, ⟨_, SqL.of hL⟩, fun D nD => ?_⟩
      generalize upd H7 L (.lst ((Txt.split b ",").map V.str)) = H8 at sL hL nD ⊢
      have DI : D ≠ I := fun e => by rw [e, sL _ _ hI7] at nD; cases nD
      have wsl : (Txt.split b ",").length ≤ 700 := by
        rw [s_comma]
        have := split_len1 b 44
        omega
      have wsb : ∀ w ∈ Txt.split b ",", w.length ≤ 1000 := fun w hw => by
        rw [s_comma] at hw
        have e1 := split_len1 b 44
        have e2 := mem_sum (f := fun (x : Str) => x.length) hw
        have e3 := split_pos b ⟨#[44]⟩
        omega
      refine lc_list (K := K) (a := L) (xs := (Txt.split b ",").map V.str) (fun j H9 => Same H8 H9 ∧ H9 D = some (.lst (((Txt.split b ",").take j).map fun w => optV (numO w)))) ⟨same_upd nD, upd_same⟩ (fun j H9 _ ⟨s9, _⟩ => SqL.of (s9 _ _ hL)) ?_ ?_
      · rintro j y H9 hj ⟨s9, h9⟩
        obtain ⟨x, hx, rfl⟩ := str_get hj
        have xm := List.mem_of_getElem? hx
        refine ⟨rfl, yesT ⟨_, rfl, x, rfl, wsb x xm, good_split bG x xm, fun m hm hxm H10 s10 => ?_, fun hnx H10 s10 => ?_⟩⟩
        · refine ⟨_, s10 _ _ h9, small64 (by rw [List.length_map, List.length_take]; omega), mutS (s9.trans s10) nD, ?_⟩
          rw [upd_same, List.take_add_one, hx, List.map_append, hxm]
          show _ = some (HO.lst (_ ++ [optV (numO (txN m))]))
          rw [numO_some hm]
          rfl
        · refine ⟨_, s10 _ _ h9, small64 (by rw [List.length_map, List.length_take]; omega), mutS (s9.trans s10) nD, ?_⟩
          rw [upd_same, List.take_add_one, hx, List.map_append]
          show _ = some (HO.lst (_ ++ [optV (numO x)]))
          rw [numO_none hnx]
          rfl
      · rintro H9 ⟨s9, h9⟩
        rw [List.length_map, List.take_length] at h9
        have s79 := sL.trans s9
        have hrow : ∀ im0, Canon t im0 → ∃ q, (rings (ap im0) n')[i]? = some q ∧ Txt.split b "," = q.map txN := fun im0 C => by
          have hr := (ofC im0 C).2
          have hl0 := nC im0 C
          rw [hl0] at hr
          have ne : rings (ap im0) n' ≠ [] := fun z => hrb.1 (by rw [hr, z, txA_nil])
          have P0 : PermF (ap im0) n' := by rw [← hl0]; exact C.1.perm
          have lt0 : ∀ x ∈ (rings (ap im0) n').flatten, x < 1000 := by rw [← hl0]; exact C.lt
          have w := words_txA ne (fun q h => rings_ne P0 h) lt0
          rw [← hr] at w
          have wi : (wordsOf r)[i]? = some (Txt.split b ",") := by unfold wordsOf; rw [List.getElem?_map, ← hrb.2, hb]; rfl
          rw [w, List.getElem?_map] at wi
          cases e : (rings (ap im0) n')[i]? with
          | none => rw [e] at wi; cases wi
          | some q => rw [e] at wi; exact ⟨q, rfl, (Option.some.inj wi).symm⟩
        have keep : ∀ c u, H6 c = some u → c ≠ I → H9 c = some u := fun c u h ne => s79 _ _ (hk c u h ne)
        have hI9 := s79 _ _ hI7
        have s09 : Same H H9 := fun c u h => keep c u (s06 _ _ h) fun e => by rw [e, hno] at h; cases h
        refine ⟨_, rfl, D, _, rfl, .inl (SqL.of h9), rfl, ?_, _, rfl, ?_⟩
        · have := flat_optV ((Txt.split b ",").map numO)
          rw [List.map_map] at this
          exact this
        show (if inV .non ((Txt.split b ",").map fun w => optV (numO w)) = true then _ else _)
        by_cases hall : ∃ w ∈ Txt.split b ",", ¬ isN w
        · rw [inV_non.mpr hall]
          refine iteT (iteT ?_)
          refine q2 (fun ⟨im0, C⟩ => ?_) H9 s09
          obtain ⟨q, hq, e⟩ := hrow im0 C
          obtain ⟨w, hw, hnw⟩ := hall
          rw [e] at hw
          obtain ⟨x, hx, rfl⟩ := List.mem_map.mp hw
          have := C.lt x (by rw [nC im0 C]; exact List.mem_flatten.mpr ⟨q, List.mem_of_getElem? hq, hx⟩)
          exact hnw ⟨x, this, rfl⟩
        have hno2 : inV .non ((Txt.split b ",").map fun w => optV (numO w)) = false := by
          rw [Bool.eq_false_iff]
          exact fun h => hall (inV_non.mp h)
        rw [hno2]
        refine iteF ?_
        obtain ⟨q, hq1, hqw⟩ := nums_of (ws := Txt.split b ",") fun w hw => Classical.byContradiction fun h => hall ⟨w, hw, h⟩
        rw [hqw, optV_nums hq1] at h9
        have ql : q.length ≤ 700 := by
          have := congrArg List.length hqw
          rw [List.length_map] at this
          omega
        have qne : q ≠ [] := fun z => split_ne b "," (by rw [hqw, z]; rfl)
        have qrow : ∀ im0, Canon t im0 → (rings (ap im0) n')[i]? = some q := fun im0 C => by
          obtain ⟨q', h1, h2⟩ := hrow im0 C
          rw [hqw] at h2
          have := map_txN_inj hq1 (fun x hx => C.lt x (by rw [nC im0 C]; exact List.mem_flatten.mpr ⟨q', List.mem_of_getElem? h1, hx⟩)) h2
          rw [this]
          exact h1
        -- twice in a ring
        refine ⟨_, rfl, D, _, rfl, .inl (SqL.of h9), _, rfl, by omega, by rw [List.length_map]; omega, fun E2 nE2 => ?_⟩
        rw [Int.toNat_natCast, List.length_map]
        refine lc_range (lo := 0) (n := q.length) (fun k HA => Same H9 HA ∧ HA E2 = some (.lst (((List.range k).filter fun k => decide (q.getD k 0 ∈ q.take k)).map nv))) ⟨same_upd nE2, upd_same⟩ ?_ ?_
        · rintro k HA hkk ⟨sA, hE⟩
          rw [Int.zero_add]
          obtain ⟨x, hx⟩ : ∃ x, q[k]? = some x := ⟨_, List.getElem?_eq_getElem hkk⟩
          have gx : q.getD k 0 = x := by rw [List.getD_eq_getElem?_getD, hx]; rfl
          have hA := sA _ _ h9
          refine ⟨rfl, _, rfl, _, rfl, D, _, _, nv x, rfl, rfl, SqL.of hA, atI_nat (nv_get hx), _, rfl, _, rfl, _, rfl, D, _, rfl, SqL.of hA, fun p np => ?_⟩
          rw [cutV_to, ← List.map_take]
          have sp := same_upd (o := .lst ((q.take k).map nv)) np
          have hp : (upd HA p (.lst ((q.take k).map nv))) p = some (.lst ((q.take k).map nv)) := upd_same
          have hEp := sp _ _ hE
          have sAp := sA.trans sp
          generalize upd HA p (.lst ((q.take k).map nv)) = HB at hp hEp sAp ⊢
          refine ⟨p, _, rfl, .inl (SqL.of hp), rfl, flat_nv _, _, rfl, ?_⟩
          show (if inV (nv x) ((q.take k).map nv) = true then _ else _)
          rw [inV_nv]
          have rs1 : ((List.range (k + 1)).filter fun k => decide (q.getD k 0 ∈ q.take k)) = ((List.range k).filter fun k => decide (q.getD k 0 ∈ q.take k)) ++ (if x ∈ q.take k then [k] else []) := by
            rw [List.range_succ, List.filter_append]
            congr 1
            by_cases m : x ∈ q.take k
            · rw [List.filter_cons_of_pos (by rw [gx]; exact decide_eq_true m), if_pos m]
              rfl
            · rw [List.filter_cons_of_neg (by rw [gx]; exact fun h => m (of_decide_eq_true h)), if_neg m]
              rfl
          by_cases m : x ∈ q.take k
          · refine decT m ⟨_, rfl, _, hEp, small64 (by
              rw [List.length_map]
              refine Nat.le_trans (List.length_filter_le _ _) ?_
              rw [List.length_range]
              omega), mutS sAp nE2, ?_⟩
            rw [upd_same, rs1, if_pos m, List.map_append]
            rfl
          · refine decF m ⟨sAp, ?_⟩
            rw [hEp, rs1, if_neg m, List.append_nil]
        · rintro HA ⟨sA, hE⟩
          refine ⟨Nat.zero_le _, fun pz npz => ?_⟩
          have sz := same_upd (o := .lst []) npz
          refine ⟨_, _, dpI (SqL.of (sz _ _ hE)), dpI (l := []) (SqL.of upd_same), shI _, shI [], ?_⟩
          rw [eqI0]
          refine ⟨_, rfl, ?_⟩
          have sAz := sA.trans sz
          have s0z := s09.trans sAz
          have h9z := sAz _ _ h9
          have hIz := sAz _ _ hI9
          have keepz : ∀ c u, H6 c = some u → c ≠ I → (upd HA pz (.lst [])) c = some u := fun c u h ne => sAz _ _ (keep c u h ne)
          generalize upd HA pz (.lst []) = HC at s0z h9z hIz keepz ⊢
          by_cases nd : ((List.range q.length).filter fun k => decide (q.getD k 0 ∈ q.take k)) ≠ []
          · refine decT nd (q2 (fun ⟨im0, C⟩ => ?_) HC s0z)
            have P0 := C.1.perm
            rw [nC im0 C] at P0
            refine nd (dup_filter.mpr ?_)
            have nf := rings_nodup P0
            have := qrow im0 C
            exact nodup_of_mem_flatten nf (List.mem_of_getElem? this)
          have nd : q.Nodup := dup_filter.mp (Classical.not_not.mp nd)
          refine decF (fun h => h (dup_filter.mpr nd)) ?_
          -- places that are not free
          refine ⟨_, rfl, D, rfl, ⟨_, SqL.of h9z⟩, fun E3 nE3 => ?_⟩
          refine lc_list (K := K) (a := D) (xs := q.map nv) (fun k HA => Same HC HA ∧ HA E3 = some (.lst (((q.take k).filter fun x => decide (n' ≤ x ∨ ap im x ≠ x)).map nv))) ⟨same_upd nE3, upd_same⟩ (fun k HA _ ⟨sA, _⟩ => SqL.of (sA _ _ h9z)) ?_ ?_
          · rintro k y HA hk2 ⟨sA, hE⟩
            obtain ⟨x, hx, rfl⟩ := of_nv_get hk2
            have hIA := sA _ _ hIz
            have st : (q.take (k + 1)).filter (fun x => decide (n' ≤ x ∨ ap im x ≠ x)) = (q.take k).filter (fun x => decide (n' ≤ x ∨ ap im x ≠ x)) ++ (if n' ≤ x ∨ ap im x ≠ x then [x] else []) := by
              rw [List.take_add_one, hx, List.filter_append]
              congr 1
              by_cases m : n' ≤ x ∨ ap im x ≠ x
              · rw [if_pos m]
                simp [m]
              · rw [if_neg m]
                exact List.filter_eq_nil_iff.mpr (by
                  intro z hz
                  have hz : z ∈ [x] := hz
                  rw [List.mem_singleton.mp hz]
                  exact fun h => m (of_decide_eq_true h))
            have fl : ((q.take k).filter fun x => decide (n' ≤ x ∨ ap im x ≠ x)).length ≤ 700 := by
              refine Nat.le_trans (List.length_filter_le _ _) ?_
              rw [List.length_take]
              omega
            refine ⟨rfl, _, rfl, _, rfl, I, _, rfl, .inl (SqL.of hIA), _, _, rfl, rfl, _, rfl, ?_⟩
            by_cases m1 : n' ≤ x
            · refine decT (by rw [List.length_map, hlen]; omega) ?_
              refine iteT ⟨_, rfl, _, hE, small64 (by rw [List.length_map]; omega), mutS sA nE3, ?_⟩
              rw [upd_same, st, if_pos (.inl m1), List.map_append]
              rfl
            · refine decF (by rw [List.length_map, hlen]; omega) ?_
              refine ⟨_, rfl, _, rfl, I, _, _, nv (ap im x), rfl, rfl, SqL.of hIA, atI_nat (nv_get (ap_get (by omega))), _, rfl, rfl, _, rfl, ?_⟩
              rw [dec_nn]
              by_cases m2 : ap im x ≠ x
              · refine decT m2 ⟨_, rfl, _, hE, small64 (by rw [List.length_map]; omega), mutS sA nE3, ?_⟩
                rw [upd_same, st, if_pos (.inr m2), List.map_append]
                rfl
              · refine decF m2 ⟨sA, ?_⟩
                rw [hE, st, if_neg (by rintro (h | h); exact m1 h; exact m2 h), List.append_nil]
          · rintro HA ⟨sA, hE⟩
            rw [List.length_map, List.take_length] at hE
            refine ⟨Nat.zero_le _, fun pz2 npz2 => ?_⟩
            have sz2 := same_upd (o := .lst []) npz2
            refine ⟨_, _, dpI (SqL.of (sz2 _ _ hE)), dpI (l := []) (SqL.of upd_same), shI _, shI [], ?_⟩
            rw [eqI0]
            refine ⟨_, rfl, ?_⟩
            have s1z := sA.trans sz2
            have s0y := s0z.trans s1z
            have h9y := s1z _ _ h9z
            have hIy := s1z _ _ hIz
            have keepy : ∀ c u, H6 c = some u → c ≠ I → (upd HA pz2 (.lst [])) c = some u := fun c u h ne => s1z _ _ (keepz c u h ne)
            generalize upd HA pz2 (.lst []) = HC2 at s0y h9y hIy keepy ⊢
            by_cases bad : ((q.filter fun x => decide (n' ≤ x ∨ ap im x ≠ x))) ≠ []
            · refine decT bad (q2 (fun ⟨im0, C⟩ => bad ?_) HC2 s0y)
              have P0 := C.1.perm
              rw [nC im0 C] at P0
              have hq0 := qrow im0 C
              have Rm := hC im0 C
              rw [List.filter_eq_nil_iff]
              intro x hx h
              have xf : x ∈ (rings (ap im0) n').flatten := List.mem_flatten.mpr ⟨q, List.mem_of_getElem? hq0, hx⟩
              have xl := rings_lt P0 xf
              have xno : x ∉ ((rings (ap im0) n').take i).flatten := not_mem_take (rings_nodup P0) hq0 hx
              have := Rm.stay x xl xno
              rcases of_decide_eq_true h with h | h
              · omega
              · exact h this
            have good : ∀ x ∈ q, x < n' ∧ ap im x = x := fun x hx => by
              have := List.filter_eq_nil_iff.mp (Classical.not_not.mp bad) x hx
              have h2 : ¬ (n' ≤ x ∨ ap im x ≠ x) := fun h => this (decide_eq_true h)
              refine ⟨Nat.lt_of_not_le fun h => h2 (.inl h), Classical.byContradiction fun h => h2 (.inr h)⟩
            refine decF (fun h => bad h) ?_
            -- the ring is led on
            refine ⟨_, rfl, D, _, rfl, .inl (SqL.of h9y), _, rfl, by omega, by rw [List.length_map]; omega, ?_⟩
            rw [Int.toNat_natCast, List.length_map]
            refine for_range (lo := 0) (n := q.length) (fun k σ H' => ∃ v6 : Option V, σ = [some (.str t), some (.ref W), some (.ref I), some (.ref B'), some (.str b), some (.ref D), v6, none, none] ∧ (∀ c u, H6 c = some u → c ≠ I → H' c = some u) ∧ H' D = some (.lst (q.map nv)) ∧ H' I = some (.lst ((stepIm im q k).map nv)))
              ⟨v6, rfl, keepy, h9y, by rw [stepIm_zero]; exact hIy⟩ ?_ ?_
            · rintro k σ HA hkk ⟨v6, rfl, kA, hDA, hIA⟩
              rw [Int.zero_add]
              obtain ⟨x, hx⟩ : ∃ x, q[k]? = some x := ⟨_, List.getElem?_eq_getElem hkk⟩
              obtain ⟨p, hp⟩ : ∃ p, (prevs q)[k]? = some p := ⟨_, List.getElem?_eq_getElem (by rw [prevs_len]; exact hkk)⟩
              have pq : p ∈ q := (prevs_perm q).mem_iff.mp (List.mem_of_getElem? hp)
              have pl := (good p pq).1
              have ix : ixN ((stepIm im q k).map nv).length (p : Int) = some p := by
                unfold ixN
                rw [List.length_map, stepIm_len, if_pos (by omega), if_pos (by omega)]
                simp
              refine ⟨_, rfl, _, rfl, D, _, _, nv x, rfl, rfl, SqL.of hDA, atI_nat (nv_get hx), ?_⟩
              refine ⟨_, rfl, _, rfl, _, rfl, _, _, rfl, rfl, D, _, _, nv p, rfl, rfl, SqL.of hDA, atI_prev hkk hp, ?_⟩
              refine ⟨I, _, _, p, rfl, rfl, hIA, ix, ?_⟩
              refine ⟨_, rfl, fun c u h ne => by rw [upd_ne ne]; exact kA c u h ne, by rw [upd_ne DI]; exact hDA, ?_⟩
              rw [upd_same, stepIm_succ nd (fun y hy => by rw [hlen]; exact (good y hy).1) hp hx, List.map_set]
            · rintro σ HA ⟨v6, rfl, kA, hDA, hIA⟩
              have hq2 : ∀ y ∈ q, y < im.length := fun y hy => by rw [hlen]; exact (good y hy).1
              have cy := cyc_step hP nd hq2 fun y hy => (good y hy).2
              rw [stepIm_all] at hIA
              refine ⟨some (.str b), some (.ref D), v6, (List.range im.length).map (nextIn im q), rfl, kA, hIA, cy.1, by rw [List.length_map, List.length_range]; exact hlen, fun im0 C => ?_⟩
              have P0 := C.1.perm
              rw [nC im0 C] at P0
              have hq0 := qrow im0 C
              have Rm := hC im0 C
              rw [← hlen] at Rm
              have := (ringsOf_more1 hP Rm qne nd hq2 (fun y hy => by rw [hlen]; exact not_mem_take (rings_nodup P0) hq0 hy)).2
              rw [List.take_add_one, hq0]
              rw [hlen] at this ⊢
              exact this
    · rintro σ H7 ⟨v4, v5, v6, im, rfl, hk, hI7, hP, hlen, hC⟩
      have s07 : Same H H7 := fun c u h => hk c u (s06 _ _ h) fun e => by rw [e, hno] at h; cases h
      have all0 : ∀ im0, Canon t im0 → im = im0 := fun im0 C => by
        have hr := (ofC im0 C).2
        have hl0 := nC im0 C
        rw [hl0] at hr
        have P0 : PermF (ap im0) n' := by rw [← hl0]; exact C.1.perm
        have lt0 : ∀ x ∈ (rings (ap im0) n').flatten, x < 1000 := by rw [← hl0]; exact C.lt
        have el : (rings (ap im0) n').length ≤ (bs.map V.str).length := by
          by_cases ne : rings (ap im0) n' = []
          · rw [ne]; exact Nat.zero_le _
          · have rb : r ≠ ("()" : Str) := by rw [hr]; exact txA_both ne (fun q h => rings_ne P0 h) lt0
            have w := words_txA ne (fun q h => rings_ne P0 h) lt0
            rw [← hr] at w
            have := congrArg List.length w
            unfold wordsOf at this
            rw [List.length_map, List.length_map] at this
            rcases hbs with ⟨e, _⟩ | ⟨_, e⟩
            · exact absurd e rb
            · rw [List.length_map, e]
              omega
        have Rm := hC im0 C
        rw [List.take_of_length_le el, ← hlen] at Rm
        have R0 := ringsOf_perm C.1.perm
        rw [hl0, ← hlen] at R0
        exact ringsOf_inj (hlen.trans hl0.symm) Rm (by rw [hl0, ← hlen]; exact R0)
      refine ⟨_, rfl, Nat.zero_le _, fun pz npz => ?_⟩
      have sz := same_upd (o := .lst []) npz
      have hIz := sz _ _ hI7
      refine ⟨_, _, dpI (SqL.of hIz), dpI (l := []) (SqL.of upd_same), shI _, shI [], ?_⟩
      rw [eqI]
      have s0z := s07.trans sz
      generalize upd H7 pz (.lst []) = H8 at s0z hIz ⊢
      refine ⟨_, rfl, ?_⟩
      by_cases c5 : im = []
      · refine decT c5 (iteT ?_)
        refine q2 (fun ⟨im0, C⟩ => ?_) H8 s0z
        have := C.2.1
        rw [← all0 im0 C, c5] at this
        cases this
      refine decF c5 ?_
      have i1 : 1 ≤ im.length := List.length_pos_iff.mpr c5
      have P7 := hP.perm
      have tot := rings_total P7
      have lt7 : ∀ x ∈ (rings (ap im) im.length).flatten, x < 1000 := fun x hx => Nat.lt_trans (rings_lt P7 hx) (by omega)
      refine ⟨_, rfl, I, _, rfl, .inl (SqL.of hIz), _, rfl, ?_, ?_⟩
      · rw [Int.natAbs_natCast, List.length_map]
        exact Nat.lt_of_le_of_lt (Nat.log2_le_self _) (by omega)
      have l1 := txN_len (n := im.length) (by omega)
      have l2 : (" " : Str).length = 1 := by decide +kernel
      have et : Str.ofString (toString (((im.map nv).length : Nat) : Int)) = txN im.length := by rw [List.length_map]; rfl
      rw [et]
      refine ⟨_, _, rfl, rfl, by rw [l2, sizeLine_eq]; omega, _, rfl, I, im, rfl, SqL.of hIz, hP, by omega, fun o as H9 s9 no nas hoa hnd ho hg => ?_⟩
      have rsl : (rings (ap im) im.length).length ≤ 1000 := by
        have := ringsTo_len (ap im) im.length im.length
        show (ringsTo _ _ _).length ≤ _
        omega
      have l3 := txA_len lt7 (by omega) rsl
      refine ⟨o, as, _, rfl, SqL.of ho, hg, lt7, by omega, rsl, fun H10 s10 => ?_⟩
      refine ⟨_, _, rfl, rfl, by rw [app_len, l2, sizeLine_eq]; omega, _, rfl, rfl, _, rfl, ?_⟩
      rw [dec_str]
      have s0y := s0z.trans (s9.trans s10)
      by_cases c6 : (txN im.length ++ (" " : Str)) ++ txA (rings (ap im) im.length) ≠ t
      · refine decT c6 (q2 (fun ⟨im0, C⟩ => c6 ?_) H10 s0y)
        have e := all0 im0 C
        subst e
        rw [C.2.2.2]
        apply cs_inj
        rw [cs_txW, cs_app, cs_app, cs_blank]
        simp
      · refine decF c6 ⟨_, rfl, q1 im (canon_of2 hP i1 (by omega) (Classical.not_not.mp c6)) I H10 s0y hno (s10 _ _ (s9 _ _ hIz))⟩
end
/-! ### moves_of with a ring that is none -/
def InSz (z : V) (x : Int) : Prop := z = .non ∨ ∃ n : Nat, z = nv n ∧ x < n
def RgI (H : Hp) (as : List Addr) (rs : List (List Int)) : Prop := as.length = rs.length ∧ ∀ (i : Nat) (b : Addr) (r : List Int), as[i]? = some b → rs[i]? = some r → H b = some (.lst (r.map V.int))
/-- the first ring that is none is number j -/
structure BadAt (z : V) (rs : List (List Int)) (j : Nat) : Prop where
  sz : z = .non ∨ ∃ n : Nat, z = nv n
  ne : ∀ (i : Nat) (r : List Int), i < j → rs[i]? = some r → r ≠ []
  nd : (rs.take j).flatten.Nodup
  ok : ∀ x ∈ (rs.take j).flatten, 0 ≤ x ∧ InSz z x
  few : rs.flatten.length ≤ 1000
  bad : ∃ b, rs[j]? = some b ∧ (b = [] ∨ ∃ (q : List Int) (x : Int) (r : List Int), b = q ++ x :: r ∧ ((rs.take j).flatten ++ q).Nodup ∧ (∀ y ∈ q, 0 ≤ y ∧ InSz z y) ∧ (x < 0 ∨ x ∈ (rs.take j).flatten ++ q ∨ ¬ InSz z x))
/-- the dict has just these keys -/
structure Keys (kv : List (Key × V)) (l : List Int) : Prop where
  iff : ∀ y : Int, valV kv (Sum.inl y) ≠ none ↔ y ∈ l
  len : kv.length ≤ l.length
theorem Keys.nil : Keys [] [] := ⟨fun y => ⟨fun h => absurd rfl h, fun h => by cases h⟩, Nat.le_refl _⟩
theorem Keys.put {kv : List (Key × V)} {l : List Int} (h : Keys kv l) (x : Int) (v : V) : Keys (putK kv (Sum.inl x) v) (l ++ [x]) := by
  refine ⟨fun y => ?_, ?_⟩
  · rw [valV_put]
    by_cases c : (Sum.inl y : Key) = Sum.inl x
    · rw [if_pos c]
      have e : y = x := Sum.inl.inj c
      exact ⟨fun _ => by rw [e]; simp, fun _ z => by cases z⟩
    · rw [if_neg c]
      have e : ¬ y = x := fun z => c (by rw [z])
      rw [h.iff y]
      simp [e]
  · have := length_putK kv (Sum.inl x) v
    have := h.len
    rw [List.length_append, List.length_singleton]
    omega
theorem take_flat {rs : List (List Int)} {i : Nat} {r : List Int} (h : rs[i]? = some r) : (rs.take (i + 1)).flatten = (rs.take i).flatten ++ r := by
  rw [List.take_add_one, h]
  simp
theorem flat_len_le (rs : List (List Int)) (i : Nat) : (rs.take i).flatten.length ≤ rs.flatten.length := by
  have e : rs.flatten = (rs.take i).flatten ++ (rs.drop i).flatten := by rw [← List.flatten_append, List.take_append_drop]
  rw [e, List.length_append]
  omega
theorem ring_len_le {rs : List (List Int)} {i : Nat} {r : List Int} (h : rs[i]? = some r) : (rs.take i).flatten.length + r.length ≤ rs.flatten.length := by
  have := flat_len_le rs (i + 1)
  rw [take_flat h, List.length_append] at this
  exact this
section
variable {P : Program} {w : World} {K : PySem.W.Frag} {mg : Str → Option Value} {base : Heap} {CR : Addr}
def spMovesX (K : PySem.W.Frag) (CR : Addr) : Sp := fun vs H Q E => ∃ (a : Addr) (z : V) (as : List Addr) (rs : List (List Int)) (j : Nat), vs = [.ref a, z] ∧ SqL K H a (as.map V.ref) ∧ RgI H as rs ∧ BadAt z rs j ∧
  ∀ (d : Addr) (H' : Hp), Same H H' → H' d = none → E (.ref CR) (some d) (upd H' d (.xd [("index", nv j)]))
theorem ok_moves_ofN {f : Addr} {fd : FuncData} (F : FunD K "moves_of" "moves_of" (defArgs s_moves_of) (defBody s_moves_of) (defScope s_moves_of) [.non] [] f fd) (T : Blt mg) (D_NoRing : ErrOk P w K mg base CX0 1 CR "NoRing" "index" "index") :
    FnOk P w K mg base (L2N.CX P w) 3 f fd ["rings", "size"] (spMovesX K CR) := by
  refine F.ok sc_moves_of (fun vs H Q E h => ?_) (fun cdv A outer s H vs Q E hr h => ?_)
  · obtain ⟨a, z, as, rs, j, rfl, _⟩ := h; rfl
  · obtain ⟨a, z, as, rs, j0, rfl, hS, hg, hb0, q⟩ := h
    have hu := hu_of hr
    obtain ⟨bad, hbad, hcase⟩ := hb0.bad
    have hj0 : j0 < rs.length := (List.getElem?_eq_some_iff.mp hbad).1
    refine ⟨_, (pss_cons (ps_set (i := 2) sc_moves_of.nd rfl (.inl rfl) pe_dnewK)
    (pss_cons (ps_for (passes_of rfl) rfl (pi_enum (by rfl) T.enumerate (pa_cons (pv 0) pa_nil)) (pg_tup rfl (pgs_cons (pg_name (i := 3) sc_moves_of.nd rfl (.inl rfl)) (pgs_cons (pg_name (i := 4) sc_moves_of.nd rfl (.inl rfl)) pgs_nil))) (pss_cons (ps_if (pt_not (pt_truth (pv 4) (by intro _; rfl))) (pss_one (L2N.ps_raise rfl (L2N.takes_of rfl rfl rfl rfl) (pmk_errN D_NoRing hr pass0 (pv 3)))) pss_nil)
    (pss_one (ps_for (passes_of rfl) rfl (pi_zip (by rfl) T.zip (pa_cons (pv 4) (pa_cons (pe_op op_cat (pe_slice sl_list (pv 4) (po_some pe_int) po_none) (pe_slice sl_list (pv 4) po_none (po_some pe_int))) pa_nil))) (pg_tup rfl (pgs_cons (pg_name (i := 5) sc_moves_of.nd rfl (.inl rfl)) (pgs_cons (pg_name (i := 6) sc_moves_of.nd rfl (.inl rfl)) pgs_nil))) (pss_cons (ps_if (PW.pt (pw_or (pt_cmpR op_lt (pv 5) pe_int (nomark _)) (pw_or (pt_cmp (pc_din hu (pv 5) (pv 2))) (pw_or1 (PW.pt (pw_and (pt_cmpR op_notN (pv 1) pe_non (nomark _)) (pw_and1 (pt_cmpR op_ge (pv 5) (pv 1) (nomark _))))))))) (pss_one (L2N.ps_raise rfl (L2N.takes_of rfl rfl rfl rfl) (pmk_errN D_NoRing hr pass0 (pv 3)))) pss_nil)
    (pss_one (ps_dput hu (pv 2) (pv 5) (pv 6) rfl)))))))
    (pss_one (ps_ret (pv 2))))), ?_⟩
    intro d nd
    have s1 : Same H (upd H d (.dK [])) := same_upd nd
    refine ⟨.ref a, rfl, a, _, rfl, s1.seq hS, ?_⟩
    refine for_it (walk_enum (K := K) (a := a) (xs := as.map V.ref)) (fun i σ H1 => ∃ (v3 v4 v5 v6 : Option V) (kv : List (Key × V)), i ≤ j0 ∧ σ = [some (.ref a), some z, some (.ref d), v3, v4, v5, v6] ∧ Same H H1 ∧ H1 d = some (.dK kv) ∧ Keys kv (rs.take i).flatten)
      ⟨none, none, none, none, [], Nat.zero_le _, rfl, s1, upd_same, Keys.nil⟩ (fun i σ H1 _ ⟨_, _, _, _, _, _, _, s2, _⟩ => s2.seq hS) ?_ ?_
    · rintro i y σ H1 H2 hi ⟨v3, v4, v5, v6, kv, hij, rfl, s2, hd, hk⟩ ⟨T1, x1, x2, rfl, nT, rfl, f1, f2⟩
      have e1 : x1 = V.int (i : Nat) := (Option.some.inj f1).symm
      subst e1
      rw [List.length_map] at hi
      obtain ⟨b, hb⟩ : ∃ b, as[i]? = some b := ⟨as[i], List.getElem?_eq_getElem hi⟩
      have e2 : x2 = V.ref b := by
        have f3 : (as.map V.ref)[i]? = some x2 := f2
        rw [List.getElem?_map, hb] at f3
        exact (Option.some.inj f3).symm
      subst e2
      obtain ⟨r, hr'⟩ : ∃ r, rs[i]? = some r := ⟨rs[i]'(by rw [← hg.1]; exact hi), List.getElem?_eq_getElem _⟩
      have hbr := hg.2 i b r hb hr'
      have dT : d ≠ T1 := ne_of_none hd nT
      have s3 : Same H (upd H1 T1 (.tup [V.int (i : Nat), V.ref b])) := mutS s2 (s2.free nT)
      refine ⟨T1, _, rfl, SqT.of upd_same, rfl, _, _, rfl, _, _, rfl, rfl, ?_⟩
      have hB : SqL K (upd H1 T1 (.tup [V.int (i : Nat), V.ref b])) b (r.map V.int) := SqL.of (s3 _ _ hbr)
      have rlen := ring_len_le hr'
      have few := hb0.few
      by_cases re : r = []
      · -- an empty ring: the one that is none
        have ij : i = j0 := by
          by_cases c : i < j0
          · exact absurd re (hb0.ne i r c hr')
          · omega
        subst ij
        refine ⟨_, rfl, false, .inl ⟨_, hB, by rw [re]; rfl⟩, iteT ?_⟩
        exact ⟨_, rfl, fun d' nd' => q d' _ s3 nd'⟩
      · refine ⟨_, rfl, true, .inl ⟨_, hB, by cases r with | nil => exact absurd rfl re | cons x r => rfl⟩, iteF ?_⟩
        -- how far the ring is good
        obtain ⟨lim, hlim, hgood, hstop⟩ : ∃ lim, lim ≤ r.length ∧ (∀ (jj : Nat) (x : Int), jj < lim → r[jj]? = some x → 0 ≤ x ∧ InSz z x ∧ x ∉ (rs.take i).flatten ++ r.take jj) ∧
            ((lim = r.length ∧ i < j0) ∨ (i = j0 ∧ ∃ x, r[lim]? = some x ∧ (x < 0 ∨ x ∈ (rs.take i).flatten ++ r.take lim ∨ ¬ InSz z x))) := by
          by_cases c : i < j0
          · refine ⟨r.length, Nat.le_refl _, fun jj x hjj hx => ?_, .inl ⟨rfl, c⟩⟩
            obtain ⟨t, ht⟩ : ∃ t, (rs.take j0).flatten = (rs.take (i + 1)).flatten ++ t := by
              refine ⟨((rs.take j0).drop (i + 1)).flatten, ?_⟩
              have e : (rs.take j0).take (i + 1) = rs.take (i + 1) := by rw [List.take_take]; congr 1; omega
              rw [← e, ← List.flatten_append, List.take_append_drop]
            have hm : x ∈ (rs.take j0).flatten := by
              rw [ht, take_flat hr']
              exact List.mem_append_left _ (List.mem_append_right _ (List.mem_of_getElem? hx))
            refine ⟨(hb0.ok x hm).1, (hb0.ok x hm).2, ?_⟩
            have nd' := hb0.nd
            rw [ht, take_flat hr'] at nd'
            have nd2 := (List.nodup_append.mp nd').1
            have er : r = r.take jj ++ x :: r.drop (jj + 1) := by
              obtain ⟨hlt, ex⟩ := List.getElem?_eq_some_iff.mp hx
              rw [← ex, ← List.drop_eq_getElem_cons hlt, List.take_append_drop]
            rw [er, ← List.append_assoc] at nd2
            intro hin
            exact (List.nodup_append.mp nd2).2.2 _ hin _ List.mem_cons_self rfl
          · have ij : i = j0 := by omega
            subst ij
            have eb : r = bad := Option.some.inj (hr'.symm.trans hbad)
            rcases hcase with h | ⟨q', x, t, h, nd', okq, why⟩
            · exact absurd (eb.trans h) re
            · have er : r = q' ++ x :: t := eb.trans h
              refine ⟨q'.length, by rw [er, List.length_append]; omega, fun jj y hjj hy => ?_, .inr ⟨rfl, x, by rw [er]; simp, ?_⟩⟩
              · rw [er, List.getElem?_append_left hjj] at hy
                have hq := okq y (List.mem_of_getElem? hy)
                refine ⟨hq.1, hq.2, ?_⟩
                have tk : r.take jj = q'.take jj := by rw [er, List.take_append_of_le_length (by omega)]
                rw [tk]
                have eq' : q' = q'.take jj ++ y :: q'.drop (jj + 1) := by
                  obtain ⟨hlt, ex⟩ := List.getElem?_eq_some_iff.mp hy
                  rw [← ex, ← List.drop_eq_getElem_cons hlt, List.take_append_drop]
                rw [eq', ← List.append_assoc] at nd'
                intro hin
                exact (List.nodup_append.mp nd').2.2 _ hin _ List.mem_cons_self rfl
              · have tk : r.take q'.length = q' := by rw [er]; simp
                rw [tk]
                exact why
        -- zip(ring, ring[1:] + ring[:1])
        refine ⟨_, rfl, _, rfl, 1, rfl, b, _, rfl, hB, fun p1 np1 => ⟨_, rfl, 1, rfl, b, _, rfl, (same_upd np1).seq hB, fun p2 np2 => ?_⟩⟩
        rw [cutV_from1, cutV_to1]
        rw [cutV_from1] at np2
        have n12 : p1 ≠ p2 := ne_of_none (upd_same (H := upd H1 T1 _)) np2
        refine ⟨p1, p2, _, _, rfl, rfl, by rw [upd_ne n12]; exact upd_same, upd_same, Nat.le_trans (show _ ≤ 2000 from ?_) (by decide), fun p3 np3 => ?_⟩
        · rw [List.length_drop, List.length_take, List.length_map]
          omega
        have sA : Same (upd H1 T1 (.tup [V.int (i : Nat), V.ref b])) (upd (upd (upd (upd H1 T1 (.tup [V.int (i : Nat), V.ref b])) p1 (.lst ((r.map V.int).drop 1))) p2 (.lst ((r.map V.int).take 1))) p3 (.lst ((r.map V.int).drop 1 ++ (r.map V.int).take 1))) :=
          ((same_upd np1).trans (same_upd np2)).trans (same_upd np3)
        have hd4 := sA _ _ (show (upd H1 T1 (.tup [V.int (i : Nat), V.ref b])) d = some (.dK kv) by rw [upd_ne dT]; exact hd)
        have h34 : (upd (upd (upd (upd H1 T1 (.tup [V.int (i : Nat), V.ref b])) p1 (.lst ((r.map V.int).drop 1))) p2 (.lst ((r.map V.int).take 1))) p3 (.lst ((r.map V.int).drop 1 ++ (r.map V.int).take 1))) p3 = some (.lst ((r.map V.int).drop 1 ++ (r.map V.int).take 1)) := upd_same
        have hB4 := sA.seq hB
        have s4 := s3.trans sA
        generalize upd (upd (upd (upd H1 T1 (.tup [V.int (i : Nat), V.ref b])) p1 (.lst ((r.map V.int).drop 1))) p2 (.lst ((r.map V.int).take 1))) p3 (.lst ((r.map V.int).drop 1 ++ (r.map V.int).take 1)) = H5 at hd4 h34 hB4 s4 ⊢
        have wl : ((r.map V.int).drop 1 ++ (r.map V.int).take 1).length = r.length := by
          rw [List.length_append, List.length_drop, List.length_take, List.length_map]
          omega
        refine ⟨b, p3, _, _, rfl, hB4, SqL.of h34, ?_⟩
        have bd4 : H5 b = some (.lst (r.map V.int)) := s4 _ _ hbr
        refine for_it (walk_zip (K := K) (a := b) (b := p3) (xs := r.map V.int) (ys := (r.map V.int).drop 1 ++ (r.map V.int).take 1) (n := r.length) (by rw [wl, List.length_map]; omega))
          (fun jj σ H3 => ∃ (v5 v6 : Option V) (kv : List (Key × V)), jj ≤ lim ∧ σ = [some (.ref a), some z, some (.ref d), some (V.int (i : Nat)), some (.ref b), v5, v6] ∧ Same H H3 ∧ H3 b = some (.lst (r.map V.int)) ∧ H3 p3 = some (.lst ((r.map V.int).drop 1 ++ (r.map V.int).take 1)) ∧ H3 d = some (.dK kv) ∧ Keys kv ((rs.take i).flatten ++ r.take jj))
          ⟨v5, v6, kv, Nat.zero_le _, rfl, s4, bd4, h34, hd4, by rw [List.take_zero, List.append_nil]; exact hk⟩ (fun jj σ H3 _ ⟨_, _, _, _, _, _, h3, h4, _⟩ => ⟨SqL.of h3, SqL.of h4⟩) ?_ ?_
        · rintro jj y σ H3 H4 hjj ⟨v5, v6, kv, hl, rfl, s5, hb5, h5, hd5, hk5⟩ ⟨T2, x1, x2, rfl, nT2, rfl, g1, g2⟩
          obtain ⟨x, hx, rfl⟩ := of_int_get g1
          have dT2 : d ≠ T2 := ne_of_none hd5 nT2
          have bT2 : b ≠ T2 := ne_of_none hb5 nT2
          have pT2 : p3 ≠ T2 := ne_of_none h5 nT2
          have hd6 : (upd H3 T2 (.tup [V.int x, x2])) d = some (.dK kv) := by rw [upd_ne dT2]; exact hd5
          have s6 : Same H (upd H3 T2 (.tup [V.int x, x2])) := mutS s5 (s5.free nT2)
          refine ⟨T2, _, rfl, SqT.of upd_same, rfl, _, _, rfl, _, _, rfl, rfl, ?_⟩
          by_cases good : jj < lim
          · obtain ⟨g0, gz, gn⟩ := hgood jj x good hx
            have hno : valV kv (Sum.inl x) = none := by
              cases e : valV kv (Sum.inl x) with
              | none => rfl
              | some v => exact absurd ((hk5.iff x).mp (by rw [e]; intro z; cases z)) gn
            refine ⟨_, rfl, _, _, rfl, rfl, _, rfl, decF (by omega) ?_⟩
            refine ⟨_, rfl, _, rfl, d, none, rfl, .inl ⟨_, _, .of hd6, rfl, hno.symm⟩, _, rfl, iteF ?_⟩
            have bd : b ≠ d := ne_of_none hbr nd
            have pd : p3 ≠ d := fun e => by rw [e, hd5] at h5; cases h5
            have fin : ∀ D : Ends, D.nx = (fun σ H3 => ∃ (v5 v6 : Option V) (kv : List (Key × V)), jj + 1 ≤ lim ∧ σ = [some (.ref a), some z, some (.ref d), some (V.int (i : Nat)), some (.ref b), v5, v6] ∧ Same H H3 ∧ H3 b = some (.lst (r.map V.int)) ∧ H3 p3 = some (.lst ((r.map V.int).drop 1 ++ (r.map V.int).take 1)) ∧ H3 d = some (.dK kv) ∧ Keys kv ((rs.take i).flatten ++ r.take (jj + 1))) →
                sDPut (tVar 2) (tVar 5) (tVar 6) D [some (.ref a), some z, some (.ref d), some (V.int (i : Nat)), some (.ref b), some (V.int x), some x2] (upd H3 T2 (.tup [V.int x, x2])) := fun D hD => by
              refine ⟨_, rfl, _, rfl, _, rfl, d, _, rfl, DPut.k (k := Sum.inl x) hd6 ?_, ?_⟩
              · have := hk5.len
                rw [List.length_append, List.length_take] at this
                exact small64 (by omega)
              · rw [hD]
                refine ⟨_, _, _, by omega, rfl, mutS s6 nd, by rw [upd_ne bd, upd_ne bT2]; exact hb5, by rw [upd_ne pd, upd_ne pT2]; exact h5, upd_same, ?_⟩
                rw [List.take_add_one, hx, ← List.append_assoc]
                exact hk5.put x x2
            rcases gz with rfl | ⟨n, rfl, hn⟩
            · exact ⟨_, rfl, rfl, _, rfl, iteF (iteF (fin _ rfl))⟩
            · exact ⟨_, rfl, rfl, _, rfl, iteT ⟨_, rfl, _, rfl, _, _, rfl, rfl, _, rfl, decF (by omega) (fin _ rfl)⟩⟩
          · have jl : jj = lim := by omega
            subst jl
            rcases hstop with ⟨e, _⟩ | ⟨ij, x', hx', why⟩
            · omega
            · have ex : x' = x := V.int.inj (by
                have h1 : (r.map V.int)[jj]? = some (V.int x') := by rw [List.getElem?_map, hx']; rfl
                have h2 : (r.map V.int)[jj]? = some (V.int x) := by rw [List.getElem?_map, hx]; rfl
                exact Option.some.inj (h1.symm.trans h2))
              subst ex
              subst ij
              by_cases neg : x' < 0
              · exact ⟨_, rfl, _, _, rfl, rfl, _, rfl, decT neg (iteT ⟨_, rfl, fun d' nd' => q d' _ s6 nd'⟩)⟩
              · refine ⟨_, rfl, _, _, rfl, rfl, _, rfl, decF neg ?_⟩
                by_cases mem : x' ∈ (rs.take i).flatten ++ r.take jj
                · obtain ⟨v, hv⟩ : ∃ v, valV kv (Sum.inl x') = some v := by
                    cases e : valV kv (Sum.inl x') with
                    | some v => exact ⟨v, rfl⟩
                    | none => exact absurd e ((hk5.iff x').mpr mem)
                  exact ⟨_, rfl, _, rfl, d, some v, rfl, .inl ⟨_, _, .of hd6, rfl, hv.symm⟩, _, rfl, iteT (iteT ⟨_, rfl, fun d' nd' => q d' _ s6 nd'⟩)⟩
                · have hno : valV kv (Sum.inl x') = none := by
                    cases e : valV kv (Sum.inl x') with
                    | none => rfl
                    | some v => exact absurd ((hk5.iff x').mp (by rw [e]; intro z; cases z)) mem
                  refine ⟨_, rfl, _, rfl, d, none, rfl, .inl ⟨_, _, .of hd6, rfl, hno.symm⟩, _, rfl, iteF ?_⟩
                  rcases hb0.sz with rfl | ⟨n, rfl⟩
                  · rcases why with h | h | h
                    · exact absurd h neg
                    · exact absurd h mem
                    · exact absurd (.inl rfl) h
                  · have nx : (n : Int) ≤ x' := by
                      rcases why with h | h | h
                      · exact absurd h neg
                      · exact absurd h mem
                      · apply Classical.byContradiction
                        intro hc
                        exact h (.inr ⟨n, rfl, by omega⟩)
                    exact ⟨_, rfl, rfl, _, rfl, iteT ⟨_, rfl, _, rfl, _, _, rfl, rfl, _, rfl, decT nx ⟨_, rfl, fun d' nd' => q d' _ s6 nd'⟩⟩⟩
        · rintro σ H3 ⟨v5, v6, kv, hl, rfl, s5, hb5, h5, hd5, hk5⟩
          have lr : lim = r.length := by omega
          rcases hstop with ⟨_, ij⟩ | ⟨_, x, hx, _⟩
          · refine ⟨_, _, v5, v6, kv, by omega, rfl, s5, hd5, ?_⟩
            rw [take_flat hr']
            rw [List.take_length] at hk5
            exact hk5
          · rw [lr, List.getElem?_eq_none (Nat.le_refl _)] at hx
            cases hx
    · rintro σ H1 ⟨v3, v4, v5, v6, kv, hij, rfl, s2, hd, hk⟩
      rw [List.length_map, hg.1] at hij
      omega
end
section
variable {P : Program} {w : World} {K : PySem.W.Frag} {mg : Str → Option Value} {base : Heap} {C CS CR : Addr}
theorem lk0 {f : Str} {v : V} : List.lookup f [(f, v)] = some v := by simp only [List.lookup, beq_self_eq_true]
/-! ### Wire(size, rings) refused -/
def spInitX (K : PySem.W.Frag) (C CS CR : Addr) : Sp := fun vs H Q E => ∃ (p dx a : Addr) (n : Int), vs = [.ref p, .int n, .ref a] ∧ H p = some (.ins C dx []) ∧
  ((n < 1 ∧ ∀ d : Addr, H d = none → E (.ref CS) (some d) (upd H d (.xd [("size", .int n)]))) ∨
    ∃ (m : Nat) (as : List Addr) (rs : List (List Int)) (j : Nat), n = m ∧ 1 ≤ m ∧ SqL K H a (as.map V.ref) ∧ RgI H as rs ∧ BadAt (nv m) rs j ∧ ∀ (d : Addr) (H' : Hp), Same H H' → H' d = none → E (.ref CR) (some d) (upd H' d (.xd [("index", nv j)])))
theorem ok_Wire_initN {f : Addr} {fd : FuncData} (F : Fun K "__init__" "Wire.__init__" s_Wire_init f fd) (D_moves_ofX : DefOk P w K mg base (L2N.CX P w) 3 "moves_of" ["rings", "size"] [] (spMovesX K CR)) (D_NoSize : ErrOk P w K mg base CX0 1 CS "NoSize" "size" "size") :
    FnOk P w K mg base (L2N.CX P w) 4 f fd ["self", "size", "rings"] (spInitX K C CS CR) := by
  refine Fun.okN F sc_Wire_init (fun vs H Q E h => ?_) (fun cdv A outer s H vs Q E hr h => ?_)
  · obtain ⟨p, dx, a, n, rfl, _⟩ := h; rfl
  · obtain ⟨p, dx, a, n, rfl, hp, h⟩ := h
    refine ⟨_, pss_cons (ps_if (pt_cmpR op_lt (pv 1) pe_int (nomark _)) (pss_one (L2N.ps_raise rfl (L2N.takes_of rfl rfl rfl rfl) (pmk_errN D_NoSize hr pass0 (pv 1)))) pss_nil)
      (pss_cons (ps_set (i := 3) sc_Wire_init.nd rfl (.inr rfl) (pe_d D_moves_ofX hr (L2N.passes_call (L2N.takes_of rfl rfl rfl rfl) (fun _ _ _ _ h => h)) (pa_cons (pv 2) (pa_cons (pv 1) pa_nil)))) pss_never), ?_⟩
    rcases h with ⟨hn, q⟩ | ⟨m, as, rs, j, rfl, hm, hS, hg, hb, q⟩
    · exact ⟨_, rfl, _, _, rfl, rfl, _, rfl, decT hn ⟨_, rfl, fun d nd => q d nd⟩⟩
    · exact ⟨_, rfl, _, _, rfl, rfl, _, rfl, decF (by omega) ⟨_, rfl, _, rfl, a, nv m, as, rs, j, rfl, hS, hg, hb, fun d H' s nd => q d H' s nd⟩⟩
end
/-! ### what read needs of a text -/
theorem starts_of {w : Str} {c : Nat} {y : Str} (hy : cs y = [c]) {r : List Nat} (e : cs w = c :: r) : Txt.startswith w y = true := by
  unfold Txt.startswith
  have l : y.length = 1 := by rw [← cs_len, hy]; rfl
  have lw : w.length = r.length + 1 := by rw [← cs_len, e]; rfl
  rw [l, StrLaws.subAt_eq, l]
  have e0 : y.cps.toList = [c] := hy
  have ew : w.cps.toList = c :: r := e
  rw [ew, e0]
  simp [lw]
theorem ends_of1 {w : Str} {c : Nat} {y : Str} (hy : cs y = [c]) {r : List Nat} (e : cs w = r ++ [c]) : Txt.endswith w y = true := by
  unfold Txt.endswith
  have l : y.length = 1 := by rw [← cs_len, hy]; rfl
  have lw : w.length = r.length + 1 := by rw [← cs_len, e]; simp
  rw [l, StrLaws.subAt_eq, l]
  have e0 : y.cps.toList = [c] := hy
  have ew : w.cps.toList = r ++ [c] := e
  rw [ew, e0, lw]
  simp
theorem flat_txN (rs : List (List Nat)) : (rs.map fun r => r.map txN).flatten = rs.flatten.map txN := by
  induction rs with
  | nil => rfl
  | cons r rs ih => rw [List.map_cons, List.flatten_cons, ih, List.flatten_cons, List.map_append]
theorem nodup_txN {l : List Nat} (h : l.Nodup) (hx : ∀ x ∈ l, x < 1000) : (l.map txN).Nodup := by
  induction l with
  | nil => exact List.nodup_nil
  | cons x l ih =>
    have n := List.nodup_cons.mp h
    refine List.nodup_cons.mpr ⟨fun hm => ?_, ih n.2 fun y hy => hx y (List.mem_cons_of_mem _ hy)⟩
    obtain ⟨y, hy, e⟩ := List.mem_map.mp hm
    have := txN_inj (hx y (List.mem_cons_of_mem _ hy)) (hx x List.mem_cons_self) e
    exact n.1 (this ▸ hy)
theorem nodup_un {l : List Nat} (h : (l.map txN).Nodup) : l.Nodup := by
  induction l with
  | nil => exact List.nodup_nil
  | cons x l ih =>
    have n := List.nodup_cons.mp h
    exact List.nodup_cons.mpr ⟨fun hm => n.1 (List.mem_map.mpr ⟨x, hm, rfl⟩), ih n.2⟩
theorem ri_of {rs : List (List Nat)} (h : rs ≠ []) (hn : ∀ r ∈ rs, r ≠ []) (nd : rs.flatten.Nodup) (hx : ∀ x ∈ rs.flatten, x < 1000) : RIok (txA rs) := by
  obtain ⟨l, hl⟩ := txA_ends (rs := rs)
  refine ⟨starts_of cs_open hl, ends_of1 (r := 40 :: l) cs_close (by rw [hl]; rfl), ?_, ?_⟩
  · rw [words_txA h hn hx, flat_txN]
    exact nodup_txN nd hx
  · rw [words_txA h hn hx, flat_txN]
    intro w hw
    obtain ⟨x, hm, rfl⟩ := List.mem_map.mp hw
    exact numS_all x (hx x hm)
/-- rows of words that tell numbers -/
theorem rows_of : ∀ {ws : List (List Str)}, (∀ w ∈ ws.flatten, isN w) → ∃ rs : List (List Nat), (∀ x ∈ rs.flatten, x < 1000) ∧ ws = rs.map fun r => r.map txN
  | [], _ => ⟨[], (by intro x h; cases h), rfl⟩
  | w :: ws, h => by
    obtain ⟨r, hr, e⟩ := nums_of (ws := w) fun x hx => h x (by rw [List.flatten_cons]; exact List.mem_append_left _ hx)
    obtain ⟨rs, hrs, e2⟩ := rows_of (ws := ws) fun x hx => h x (by rw [List.flatten_cons]; exact List.mem_append_right _ hx)
    refine ⟨r :: rs, fun x hx => ?_, by rw [List.map_cons, ← e, ← e2]⟩
    rw [List.flatten_cons] at hx
    rcases List.mem_append.mp hx with hx | hx
    · exact hr x hx
    · exact hrs x hx
theorem txN_mono {x n : Nat} (h : x < n) (hn : n < 1000) : (txN x).length ≤ (txN n).length := by
  rw [txN_length hn, txN_length (Nat.lt_trans h hn)]
  repeat' split
  all_goals omega
theorem follows_mem {f : Nat → Nat} {r : List Nat} (F : Follows f r) {x : Nat} (h : x ∈ r) : f x ∈ r := by
  have e := follows_iff.mp F
  have : f x ∈ rot r := by rw [e]; exact List.mem_map.mpr ⟨x, h, rfl⟩
  exact mem_rot.mp this
theorem RingsOf.moves {im : List Nat} {n : Nat} {rs : List (List Nat)} (hI : IsPerm im) (hl : im.length = n) (R : RingsOf (ap im) n rs) (h1 : rs.flatten.length < 64) (h2 : n ≤ 1000) : Moves (ap im) n rs.flatten where
  perm := by rw [← hl]; exact hI.perm
  nd := R.nd
  lt := R.lt
  all x hx hne := Classical.byContradiction fun h => hne (R.stay x hx h)
  cl k hk := by
    obtain ⟨r, hr, hx⟩ := List.mem_flatten.mp hk
    exact List.mem_flatten.mpr ⟨r, hr, follows_mem (R.fol r hr) hx⟩
  few := h1
  small := Nat.le_trans (Nat.mul_le_mul (show rs.flatten.length ≤ 64 by omega) h2) (by decide)
open Classical in
theorem first_not {p : Nat → Prop} : ∀ {l : List Nat}, (∃ x ∈ l, ¬ p x) → ∃ q x r, l = q ++ x :: r ∧ (∀ y ∈ q, p y) ∧ ¬ p x
  | [], ⟨_, h, _⟩ => by cases h
  | a :: l, ⟨x, h, hx⟩ => by
    by_cases c : p a
    · have : ∃ x ∈ l, ¬ p x := by
        rcases List.mem_cons.mp h with rfl | h
        · exact absurd c hx
        · exact ⟨x, h, hx⟩
      obtain ⟨q, y, r, e, h1, h2⟩ := first_not this
      refine ⟨a :: q, y, r, by rw [e]; rfl, fun z hz => ?_, h2⟩
      rcases List.mem_cons.mp hz with rfl | hz
      · exact c
      · exact h1 z hz
    · exact ⟨[], a, l, rfl, (by intro y hy; cases hy), c⟩
open Classical in
theorem first_row {p : Nat → Prop} : ∀ {rs : List (List Nat)}, (∃ x ∈ rs.flatten, ¬ p x) → ∃ j b, rs[j]? = some b ∧ (∀ y ∈ (rs.take j).flatten, p y) ∧ ∃ x ∈ b, ¬ p x
  | [], ⟨_, h, _⟩ => by cases h
  | a :: rs, ⟨x, h, hx⟩ => by
    by_cases c : ∃ x ∈ a, ¬ p x
    · exact ⟨0, a, rfl, (by intro y hy; cases hy), c⟩
    · have : ∃ x ∈ rs.flatten, ¬ p x := by
        rw [List.flatten_cons] at h
        rcases List.mem_append.mp h with h | h
        · exact absurd ⟨x, h, hx⟩ c
        · exact ⟨x, h, hx⟩
      obtain ⟨j, b, e, h1, h2⟩ := first_row this
      refine ⟨j + 1, b, by rw [List.getElem?_cons_succ]; exact e, fun y hy => ?_, h2⟩
      rw [List.take_succ_cons, List.flatten_cons] at hy
      rcases List.mem_append.mp hy with hy | hy
      · exact Classical.not_not.mp fun z => c ⟨y, hy, z⟩
      · exact h1 y hy
/-- rings of integers -/
def intR (rs : List (List Nat)) : List (List Int) := rs.map fun r => r.map fun (x : Nat) => (x : Int)
theorem intR_flat (rs : List (List Nat)) : (intR rs).flatten = rs.flatten.map fun (x : Nat) => (x : Int) := by
  unfold intR
  induction rs with
  | nil => rfl
  | cons r rs ih => rw [List.map_cons, List.flatten_cons, ih, List.flatten_cons, List.map_append]
theorem intR_take (rs : List (List Nat)) (j : Nat) : (intR rs).take j = intR (rs.take j) := by unfold intR; rw [List.map_take]
theorem nodup_int {l : List Nat} (h : l.Nodup) : (l.map fun (x : Nat) => (x : Int)).Nodup := by
  induction l with
  | nil => exact List.nodup_nil
  | cons x l ih =>
    have n := List.nodup_cons.mp h
    refine List.nodup_cons.mpr ⟨fun hm => ?_, ih n.2⟩
    obtain ⟨y, hy, e⟩ := List.mem_map.mp hm
    have e : ((y : Nat) : Int) = (x : Int) := e
    have : y = x := by omega
    exact n.1 (this ▸ hy)
theorem Rg.int {H : Hp} {as : List Addr} {rs : List (List Nat)} (g : Rg H as rs) : RgI H as (intR rs) := by
  refine ⟨by unfold intR; rw [List.length_map]; exact g.len, fun i b r h1 h2 => ?_⟩
  unfold intR at h2
  rw [List.getElem?_map] at h2
  cases e : rs[i]? with
  | none => rw [e] at h2; cases h2
  | some q =>
    rw [e] at h2
    cases h2
    rw [List.map_map]
    exact g.at_ i b q h1 e
theorem bad_at {rs : List (List Nat)} {m : Nat} (hne : ∀ r ∈ rs, r ≠ []) (nd : rs.flatten.Nodup) (few : rs.flatten.length ≤ 1000) (hb : ∃ x ∈ rs.flatten, ¬ x < m) : ∃ j, BadAt (nv m) (intR rs) j := by
  obtain ⟨j, b, hj, h1, h2⟩ := first_row (p := fun x => x < m) hb
  obtain ⟨q, x, r, e, h3, h4⟩ := first_not h2
  have key : (rs.take (j + 1)).flatten = (rs.take j).flatten ++ b := by rw [List.take_add_one, hj]; simp
  obtain ⟨t, ht⟩ := take_flat_subN (rs := rs) (j + 1)
  have nd1 : ((rs.take j).flatten ++ b).Nodup := by
    rw [ht, key] at nd
    exact (List.nodup_append.mp nd).1
  have nd2 : ((rs.take j).flatten ++ q).Nodup := by
    rw [e, ← List.append_assoc] at nd1
    exact (List.nodup_append.mp nd1).1
  refine ⟨j, ⟨.inr ⟨m, rfl⟩, fun i r hi hr => ?_, ?_, fun y hy => ?_, ?_, ?_⟩⟩
  · unfold intR at hr
    rw [List.getElem?_map] at hr
    cases e : rs[i]? with
    | none => rw [e] at hr; cases hr
    | some q =>
      rw [e] at hr
      cases hr
      intro z
      exact hne q (List.mem_of_getElem? e) (List.map_eq_nil_iff.mp z)
  · rw [intR_take, intR_flat]
    exact nodup_int (List.nodup_append.mp nd1).1
  · rw [intR_take, intR_flat] at hy
    obtain ⟨z, hz, rfl⟩ := List.mem_map.mp hy
    exact ⟨Int.natCast_nonneg z, .inr ⟨m, rfl, by have := h1 z hz; omega⟩⟩
  · rw [intR_flat, List.length_map]
    exact few
  · refine ⟨b.map fun (x : Nat) => (x : Int), ?_, .inr ⟨q.map fun (x : Nat) => (x : Int), (x : Int), r.map fun (x : Nat) => (x : Int), ?_, ?_, fun y hy => ?_, .inr (.inr ?_)⟩⟩
    · unfold intR
      rw [List.getElem?_map, hj]
      rfl
    · rw [e, List.map_append]
      rfl
    · rw [intR_take, intR_flat, ← List.map_append]
      exact nodup_int nd2
    · obtain ⟨z, hz, rfl⟩ := List.mem_map.mp hy
      exact ⟨Int.natCast_nonneg z, .inr ⟨m, rfl, by have := h3 z hz; omega⟩⟩
    · rintro (z | ⟨n, z, hlt⟩)
      · cases z
      · have z : (m : Int) = n := V.int.inj z
        exact h4 (by omega)
/-- what is asked of a text that is read -/
structure Pre (t : Str) : Prop where
  len : t.length ≤ 600
  dig : (Txt.partition t " ").1.length ≤ 3 ∨ (Txt.partition t " ").2.2 = Str.empty
  few : (wordsOf (Txt.partition t " ").2.2).flatten.length < 64
/-! ### rings_in once more: what is told, with one way on -/
def WsOk (r : Str) (ws : List (List Str)) : Prop := (r = ("()" : Str) ∧ ws = []) ∨ (r ≠ ("()" : Str) ∧ RIok r ∧ ws = wordsOf r)
theorem WsOk.nd {r : Str} {ws : List (List Str)} (h : WsOk r ws) : ws.flatten.Nodup := by
  rcases h with ⟨_, rfl⟩ | ⟨_, h, rfl⟩
  · exact List.nodup_nil
  · exact h.2.2.1
theorem WsOk.num {r : Str} {ws : List (List Str)} (h : WsOk r ws) : ∀ w ∈ ws.flatten, numS w = true := by
  rcases h with ⟨_, rfl⟩ | ⟨_, h, rfl⟩
  · intro w h; cases h
  · exact h.2.2.2
theorem WsOk.ne {r : Str} {ws : List (List Str)} (h : WsOk r ws) : ∀ q ∈ ws, q ≠ [] := by
  rcases h with ⟨_, rfl⟩ | ⟨_, h, rfl⟩
  · intro w h; cases h
  · exact fun q hq => ((words_len r).2.2.1 q hq).1
theorem WsOk.few {r : Str} {ws : List (List Str)} (h : WsOk r ws) (hf : (wordsOf r).flatten.length < 64) : ws.flatten.length < 64 := by
  rcases h with ⟨_, rfl⟩ | ⟨_, h, rfl⟩
  · show 0 < 64; decide
  · exact hf
theorem rows_le : ∀ {α : Type} {ws : List (List α)}, (∀ q ∈ ws, q ≠ []) → ws.length ≤ ws.flatten.length
  | _, [], _ => Nat.le_refl _
  | _, q :: ws, h => by
    have a := rows_le fun x hx => h x (List.mem_cons_of_mem _ hx)
    have b := List.length_pos_iff.mpr (h q List.mem_cons_self)
    rw [List.flatten_cons, List.length_append, List.length_cons]
    omega
theorem WsOk.canon {t r : Str} {ws : List (List Str)} {im : List Nat} (h : WsOk r ws) (C : Canon t im) (e : r = txA (rings (ap im) im.length)) : ws = (rings (ap im) im.length).map fun q => q.map txN := by
  by_cases z : rings (ap im) im.length = []
  · rw [z, txA_nil] at e
    rcases h with ⟨_, rfl⟩ | ⟨hn, _, _⟩
    · rw [z]; rfl
    · exact absurd e hn
  · have w := words_txA z (fun q h => rings_ne C.1.perm h) C.lt
    rw [← e] at w
    rcases h with ⟨hb, _⟩ | ⟨_, _, rfl⟩
    · exact absurd (e.symm.trans hb) (txA_both z (fun q h => rings_ne C.1.perm h) C.lt)
    · exact w
theorem wsOk_of {t r : Str} {im : List Nat} (C : Canon t im) (e : r = txA (rings (ap im) im.length)) : ∃ ws, WsOk r ws := by
  by_cases z : rings (ap im) im.length = []
  · rw [z, txA_nil] at e
    exact ⟨[], .inl ⟨e, rfl⟩⟩
  · refine ⟨_, .inr ⟨?_, ?_, rfl⟩⟩
    · rw [e]; exact txA_both z (fun q h => rings_ne C.1.perm h) C.lt
    · rw [e]; exact ri_of z (fun q h => rings_ne C.1.perm h) (rings_nodup C.1.perm) C.lt
section
variable {P : Program} {w : World} {K : PySem.W.Frag} {mg : Str → Option Value} {base : Heap}
theorem fnImp {CX : CXT} {k : Nat} {f : Addr} {fd : FuncData} {ps : List Str} {sp1 sp2 : Sp} (a : FnOk P w K mg base CX k f fd ps sp1) (h : ∀ vs H Q E, sp2 vs H Q E → sp1 vs H Q E) : FnOk P w K mg base CX k f fd ps sp2 :=
  ⟨fun vs H Q E z => a.len _ _ _ _ (h vs H Q E z), fun A outer s H args us vs Q E hr e0 hb r hsp => a.run A outer s H args us vs Q E hr e0 hb r (h vs H Q E hsp)⟩
theorem DefOk.imp {CX : CXT} {k : Nat} {x : Str} {ps : List Str} {dvs : List V} {sp1 sp2 : Sp} (a : DefOk P w K mg base CX k x ps dvs sp1) (h : ∀ vs H Q E, sp2 vs H Q E → sp1 vs H Q E) : DefOk P w K mg base CX k x ps dvs sp2 := by
  obtain ⟨f, fd, ds, hm, hk, hb, hd, F⟩ := a
  exact ⟨f, fd, ds, hm, hk, hb, hd, fnImp F h⟩
def spRingsIn2 : Sp := fun vs H Q _ => ∃ r : Str, vs = [.str r] ∧ r.length ≤ 1000 ∧ (∀ (ws : List (List Str)) (o : Addr) (as : List Addr) (H' : Hp), WsOk r ws → Same H H' → H o = none → H' o = some (.lst (as.map V.ref)) → RgS H' as ws → Q (.ref o) H') ∧
  ((¬ ∃ ws, WsOk r ws) → ∀ H' : Hp, Same H H' → Q .non H')
theorem ringsIn2 (D : DefOk P w K mg base CX0 2 "rings_in" ["text"] [] spRingsIn) : DefOk P w K mg base CX0 2 "rings_in" ["text"] [] spRingsIn2 := D.imp fun vs H Q E ⟨r, e, hl, h1, h2⟩ =>
  ⟨r, e, hl, fun c o H' s no ho => h1 [] o [] H' (.inl ⟨c, rfl⟩) s no ho ⟨rfl, fun i a w h _ => by cases h⟩, fun c R o as H' s no ho hg => h1 _ o as H' (.inr ⟨c, R, rfl⟩) s no ho hg,
    fun c R H' s => h2 (fun ⟨ws, h⟩ => by rcases h with ⟨z, _⟩ | ⟨_, z, _⟩; exact c z; exact R z) H' s⟩
end
section
variable {P : Program} {w : World} {K : PySem.W.Frag} {mg : Str → Option Value} {base : Heap} {C CS CR CT : Addr}
theorem fnOr {CX : CXT} {k1 k : Nat} {f : Addr} {fd : FuncData} {ps : List Str} {sp1 sp2 : Sp} (a : FnOk P w K mg base CX0 k1 f fd ps sp1) (b : FnOk P w K mg base CX k f fd ps sp2) (h : k1 ≤ k) : FnOk P w K mg base CX k f fd ps (fun vs H Q E => sp1 vs H Q E ∨ sp2 vs H Q E) :=
  ⟨fun vs H Q E h => h.elim (a.len _ _ _ _) (b.len _ _ _ _), fun A outer s H args us vs Q E hr e0 hb r hsp => by
    rcases hsp with h1 | h2
    · exact codeAny_mono (a.run A outer s H args us vs Q E (hr.mono h) e0 hb r h1) fun z s' hz => match z, hz with | .ok (.ret _), hz => hz | .ok .next, hz => hz | .ok .brk, hz => hz | .ok .cont, hz => hz | .error e, hz => hz.elim
    · exact b.run A outer s H args us vs Q E hr e0 hb r h2⟩
def spCtor (K : PySem.W.Frag) (C CS CR : Addr) : Sp := fun vs H Q E => spInit K C vs H Q E ∨ spInitX K C CS CR vs H Q E
/-! ### Wire.read -/
abbrev s_Wire_read : Stmt := inClass (top 11) 1
theorem sc_Wire_read : FnScope ["text", "digits", "_", "rest", "rings", "ring", "place"] ["text"] (defScope s_Wire_read) := ⟨rfl, rfl, rfl, by decide +kernel, rfl, by decide +kernel, by decide +kernel⟩

def spRead (K : PySem.W.Frag) (C CT : Addr) : Sp := fun vs H Q E => ∃ t : Str, vs = [.str t] ∧ Pre t ∧ (∀ im, Canon t im → ∀ (x : Addr) (H' : Hp), Same H H' → H x = none → WireAt C H' x im → Q (.ref x) H') ∧
  ((¬ ∃ im, Canon t im) → ∀ (d : Addr) (H' : Hp), Same H H' → H' d = none → E (.ref CT) (some d) (upd H' d (.xd [("text", .str t)])))
set_option maxHeartbeats 1000000 in
theorem ok_Wire_read {f : Addr} {fd : FuncData} {tk : Tok} (F : Fun K "read" "Wire.read" s_Wire_read f fd) (T : Blt mg) (any : mg "any" = none) (gM : mg "MOST_DIGITS" = some (.int 18 tk)) (gS : mg "NoSize" = some (.ref CS)) (gR : mg "NoRing" = some (.ref CR))
    (eSS : PySem.W.exmAny K (.ref CS) [.ref CS, .ref CR] = some true) (eRR : PySem.W.exmAny K (.ref CR) [.ref CS, .ref CR] = some true)
    (D_rings_in : DefOk P w K mg base CX0 2 "rings_in" ["text"] [] spRingsIn2) (D_is_number : DefOk P w K mg base CX0 1 "is_number" ["text"] [] spIsNum) (D_with_integers : DefOk P w K mg base CX0 1 "with_integers" ["rings"] [] (spWithInts K))
    (D_moves_of1 : DefOk P w K mg base CX0 1 "moves_of" ["rings", "size"] [.non] (spMoves K)) (D_rings_of : DefOk P w K mg base CX0 1 "rings_of" ["moves"] [] spRingsOf) (D_rings_text : DefOk P w K mg base CX0 1 "rings_text" ["rings"] [] (spText K))
    (M_WireN : MakeOk P w K mg base (L2N.CX P w) 4 C "Wire" ["self", "size", "rings"] [] (spCtor K C CS CR)) (D_NoText : ErrOk P w K mg base CX0 1 CT "NoText" "text" "text") (D_NoTextH : ErrOkH P w K mg base CX0 1 CT "NoText" "text" "text") :
    FnOk P w K mg base (L2.CX P w) 6 f fd ["text"] (spRead K C CT) := by
  refine F.okX sc_Wire_read (fun vs H Q E h => ?_) (fun cdv A outer s H vs Q E hr h => ?_)
  · obtain ⟨t, rfl, _⟩ := h; rfl
  · obtain ⟨t, rfl, pre, q1, q2⟩ := h
    have tl := pre.len
    refine ⟨_, (pss_cons (ps_asg (pe_partition (pv 0) pe_str) (pg_tup rfl (pgs_cons (pg_name (i := 1) sc_Wire_read.nd rfl (.inr rfl)) (pgs_cons (pg_name (i := 2) sc_Wire_read.nd rfl (.inl rfl)) (pgs_cons (pg_name (i := 3) sc_Wire_read.nd rfl (.inl rfl)) pgs_nil)))))
    (pss_cons (ps_set (i := 4) sc_Wire_read.nd rfl (.inl rfl) (pe_d D_rings_in hr pass0 (pa_cons (pv 3) pa_nil)))
    (pss_cons (ps_if (PW.pt (pw_or (pt_cmpR op_isN (pv 4) pe_non (nomark _)) (pw_or (pt_not (pt_truth (pe_d D_is_number hr pass0 (pa_cons (pv 1) pa_nil)) (by intro _; rfl))) (pw_or1 (pt_cmpR op_gt (pe_callB call_lenT (by rfl) T.len PySem.boot_len (pa_cons (pv 1) pa_nil)) (pe_glob (v := .int 18) rfl gM ⟨_, rfl⟩) (nomark _)))))) (pss_one (ps_raise rfl (takes_of rfl rfl rfl rfl) (pmk_err D_NoText hr pass0 (pv 0)))) pss_nil)
    (pss_cons (ps_if (pt_truth (pe_callB (cr_any rfl) (by rfl) any (by decide +kernel) (pa_cons (pe_lc2 (own := [("ring", 5), ("place", 6)]) (vs1 := [6]) (tt := tYes) (tt1 := tYes) (te := tOp (rI0 fun i j => .bl (decide (j < i))) (tCB rLenTx (tCons (tVar 6) tNil)) (tCB rLenTx (tCons (tVar 1) tNil))) (wi1 := iList K (tVar 5)) rfl sc_Wire_read.nd (pi_list (pv 4)) (blkOk_by (N := ["text", "digits", "_", "rest", "rings", "ring", "place"]) (sc := defScope s_Wire_read) (by decide +kernel)) (by decide) (fun _ _ _ _ _ => (pg_name (i := 5) sc_Wire_read.nd rfl (.inl rfl))) (fun _ _ _ _ _ => pts_nil) (fun _ _ _ _ _ => by exact (pi_list (pv 5))) (fun _ _ _ _ _ => (pg_name (i := 6) sc_Wire_read.nd rfl (.inl rfl))) (fun _ _ _ _ _ => pts_nil) (fun _ _ _ _ _ => by exact (pe_cmpR op_gt (pe_callB call_lenT (by rfl) T.len PySem.boot_len (pa_cons (pv 6) pa_nil)) (pe_callB call_lenT (by rfl) T.len PySem.boot_len (pa_cons (pv 1) pa_nil)) (nomark _)))) pa_nil)) (by intro _; rfl)) (pss_one (ps_raise rfl (takes_of rfl rfl rfl rfl) (pmk_err D_NoText hr pass0 (pv 0)))) pss_nil)
    (pss_cons (ps_set (i := 4) sc_Wire_read.nd rfl (.inl rfl) (pe_d D_with_integers hr pass0 (pa_cons (pv 4) pa_nil)))
    (pss_cons (ps_if (pt_cmpR op_ne (pe_d D_rings_text hr pass0 (pa_cons (pe_d D_rings_of hr pass0 (pa_cons (pe_d D_moves_of1 hr pass0 (pa_cons (pv 4) pa_nil)) pa_nil)) pa_nil)) (pv 3) (nomark _)) (pss_one (ps_raise rfl (takes_of rfl rfl rfl rfl) (pmk_err D_NoText hr pass0 (pv 0)))) pss_nil)
    (pss_one (ps_try_tup2X (tb := fun W => tRet (tMakeS C (spCtor K C CS CR) [] (WE W) (tCons (tCB rIntS (tCons (tVar 1) tNil)) (tCons (tVar 4) tNil)))) (c1 := .ref CS) (c2 := .ref CR) (Wout := fun cls d _ H => E cls d H)
      (ts := fun _ _ _ _ σ H => tMkErr CT "text" (tVar 0) σ H fun cls d H' => E cls d H') rfl rfl ⟨rfl, by decide, Or.inl gS⟩ ⟨rfl, by decide, Or.inl gR⟩ (fun hd => L2H.passesAt_of rfl hd) (takes_of rfl rfl rfl rfl)
      (fun W pn xe tk _ => pss_one (ps_ret (by exact (pe_mkS M_WireN hr (fun σ => L2N.passAt tk σ) (pa_cons (pe_callTy call_intS (by rfl) T.int (by decide +kernel) (pa_cons (pv 1) pa_nil)) (pa_cons (pv 4) pa_nil))))))
      (fun a oe cls d pn hz hf tkS hot => pss_one (by exact (L2H.ps_raiseHN hot tkS (pmk5_errH D_NoTextH (L2H.roomH_mark hr _) hot pass0 (pv 0))))))))))))), ?_⟩
    refine ⟨_, rfl, ⟨_, rfl⟩, t, " ", rfl, rfl, by decide +kernel, by rw [sizeLine_eq]; omega, fun p np => ?_⟩
    refine ⟨p, _, rfl, SqT.of upd_same, rfl, _, _, rfl, _, _, rfl, _, _, rfl, rfl, ?_⟩
    have s1 := same_upd (o := .tup [.str (Txt.partition t " ").1, .str (Txt.partition t " ").2.1, .str (Txt.partition t " ").2.2]) np
    generalize upd H p _ = H1 at s1 ⊢
    have noC : ∀ im, Canon t im → (Txt.partition t " ").1 = txN im.length ∧ (Txt.partition t " ").2.2 = txA (rings (ap im) im.length) := fun im C => C.parts
    have pdig := pre.dig
    have pfew := pre.few
    have hspl := partition_free t 32
    rw [← s_blank] at hspl
    obtain ⟨_, hspl⟩ := hspl
    generalize hd : (Txt.partition t " ").1 = d at noC pdig hspl ⊢
    generalize (Txt.partition t " ").2.1 = md
    generalize hrr : (Txt.partition t " ").2.2 = r at noC pdig pfew hspl ⊢
    have bad : ∀ {H' : Hp}, Same H H' → (¬ ∃ im, Canon t im) → ∀ e, H' e = none → E (.ref CT) (some e) (upd H' e (.xd [("text", .str t)])) := fun s h e ne => q2 h e _ s ne
    have rl : r.length ≤ 1000 := by
      rcases hspl with h | h
      · rw [h]; exact Nat.zero_le _
      · have := congrArg Str.length h
        rw [app_len, app_len] at this
        omega
    have RO : ∀ im, Canon t im → ∀ r ∈ rings (ap im) im.length, r ≠ [] := fun im C r h => rings_ne C.1.perm h
    -- what is told of the rings
    refine ⟨_, rfl, r, rfl, rl, fun ws o as H2 hws s2 no ho hg => ?_, fun hno H2 s2 => ?_⟩
    rotate_left
    · -- no rings
      refine ⟨_, rfl, rfl, _, rfl, ?_⟩
      have en : decide (V.non = V.non) = true := decide_eq_true rfl
      rw [en]
      exact iteT ⟨_, rfl, bad (s1.trans s2) fun ⟨im, C⟩ => hno (wsOk_of C (noC im C).2)⟩
    have s02 := s1.trans s2
    have re : r ≠ Str.empty := fun e => by
      rcases hws with ⟨z, _⟩ | ⟨_, z, _⟩
      · rw [e] at z
        have := congrArg cs z
        rw [cs_both, cs_empty] at this
        cases this
      · rw [e] at z
        cases z.1
    have dl : d.length ≤ 3 := pdig.resolve_right re
    have ht : t = d ++ (" " : Str) ++ r := hspl.resolve_left re
    refine ⟨_, rfl, rfl, _, rfl, ?_⟩
    have en : decide (V.ref o = V.non) = false := decide_eq_false fun h => by cases h
    rw [en]
    refine iteF ?_
    refine ⟨_, rfl, d, rfl, _, rfl, ?_⟩
    cases hn : numS d
    · refine iteT ⟨_, rfl, bad s02 fun ⟨im, C⟩ => ?_⟩
      rw [(noC im C).1, numS_all _ C.2.2.1] at hn
      cases hn
    refine iteF ?_
    refine ⟨_, rfl, d, rfl, by rw [sizeLine_eq]; omega, _, _, rfl, rfl, _, rfl, ?_⟩
    refine decF (by omega) ?_
    obtain ⟨n, hn3, hdn⟩ := numS_isN hn dl
    have wl := hws.few pfew
    have wl2 := rows_le hws.ne
    refine ⟨_, rfl, o, rfl, ⟨_, SqL.of ho⟩, fun E2 nE => ?_⟩
    have wsl : ∀ w ∈ ws.flatten, w.length ≤ 1000 := by
      intro w hw
      rcases hws with ⟨_, rfl⟩ | ⟨_, _, rfl⟩
      · cases hw
      · have := (words_len r).2.2.2 w hw
        omega
    refine out_list (K := K) (a := o) (xs := as.map V.ref) (fun i H3 => Same H2 H3 ∧ H3 E2 = some (.lst ((((ws.take i).flatten).map fun (x : Str) => decide ((d.length : Int) < (x.length : Int))).map V.bl))) ⟨same_upd nE, upd_same⟩ (fun i H3 _ ⟨s3, _⟩ => SqL.of (s3 _ _ ho)) ?_ ?_
    · rintro i y H3 hi ⟨s3, hE⟩
      obtain ⟨b, hb, rfl⟩ : ∃ b, as[i]? = some b ∧ y = V.ref b := by
        rw [List.getElem?_map] at hi
        cases e : as[i]? with
        | none => rw [e] at hi; cases hi
        | some b => rw [e] at hi; exact ⟨b, rfl, (Option.some.inj hi).symm⟩
      have hil : i < ws.length := by rw [← hg.len]; exact (List.getElem?_eq_some_iff.mp hb).1
      obtain ⟨q, hq⟩ : ∃ q, ws[i]? = some q := ⟨_, List.getElem?_eq_getElem hil⟩
      have hbw := hg.at_ i b q hb hq
      have lf : ∀ j, ((ws.take i).flatten ++ q.take j).length ≤ 3000 := fun j => by
        have a1 : ((ws.take i).flatten).length ≤ ws.flatten.length := by
          have e : ws.flatten = (ws.take i).flatten ++ (ws.drop i).flatten := by rw [← List.flatten_append, List.take_append_drop]
          rw [e, List.length_append]
          omega
        have a2 : q.length ≤ ws.flatten.length := by
          obtain ⟨l1, l2, e⟩ := List.append_of_mem (List.mem_of_getElem? hq)
          rw [e, List.flatten_append, List.flatten_cons, List.length_append, List.length_append]
          omega
        rw [List.length_append, List.length_take]
        omega
      refine ⟨rfl, yesT ?_⟩
      refine ⟨_, rfl, b, rfl, ⟨_, SqL.of (s3 _ _ hbw)⟩, ?_⟩
      refine in_list (K := K) (a := b) (xs := q.map V.str) (fun j H4 => Same H2 H4 ∧ H4 E2 = some (.lst ((((ws.take i).flatten ++ q.take j).map fun (x : Str) => decide ((d.length : Int) < (x.length : Int))).map V.bl))) ⟨s3, by rw [List.take_zero, List.append_nil]; exact hE⟩ (fun j H4 _ ⟨s4, _⟩ => SqL.of (s4 _ _ hbw)) ?_ ?_
      · rintro j y H4 hj ⟨s4, hE4⟩
        obtain ⟨x, hx, rfl⟩ := str_get hj
        have xl := wsl x (List.mem_flatten.mpr ⟨q, List.mem_of_getElem? hq, List.mem_of_getElem? hx⟩)
        have lfj := lf j
        refine ⟨rfl, yesT ⟨_, rfl, x, rfl, by rw [sizeLine_eq]; omega, _, rfl, d, rfl, by rw [sizeLine_eq]; omega, _, _, rfl, rfl, _, hE4, small64 (by rw [List.length_map, List.length_map]; omega), mutS s4 nE, ?_⟩⟩
        rw [upd_same, List.take_add_one, hx, ← List.append_assoc]
        simp
      · rintro H4 ⟨s4, hE4⟩
        rw [List.length_map, List.take_length] at hE4
        refine ⟨s4, ?_⟩
        rw [hE4, List.take_add_one, hq]
        simp
    rintro H3 ⟨s3, hE⟩
    rw [List.length_map, hg.len, List.take_length] at hE
    refine ⟨E2, _, rfl, SqL.of hE, _, rfl, ?_⟩
    have s03 := s02.trans s3
    cases hany : (ws.flatten.map fun (x : Str) => decide ((d.length : Int) < (x.length : Int))).any id
    rotate_left
    · refine iteT ⟨_, rfl, bad s03 fun ⟨im, C⟩ => ?_⟩
      obtain ⟨b, hb, eb⟩ := List.any_eq_true.mp hany
      obtain ⟨x, hx, rfl⟩ := List.mem_map.mp hb
      have eb := of_decide_eq_true eb
      rw [hws.canon C (noC im C).2, flat_txN] at hx
      obtain ⟨z, hz, rfl⟩ := List.mem_map.mp hx
      have := txN_mono (rings_lt C.1.perm hz) C.2.2.1
      rw [(noC im C).1] at eb
      omega
    refine iteF ?_
    have hshort : ∀ x ∈ ws.flatten, x.length ≤ 3 := fun x hx => by
      have := List.any_eq_false.mp hany (decide ((d.length : Int) < (x.length : Int))) (List.mem_map.mpr ⟨x, hx, rfl⟩)
      have : ¬ ((d.length : Int) < (x.length : Int)) := fun z => this (by show id (decide _) = true; exact decide_eq_true z)
      omega
    obtain ⟨rs, hrs, ews⟩ := rows_of (ws := ws) fun x hx => numS_isN (hws.num x hx) (hshort x hx)
    have lflat : rs.flatten.length = ws.flatten.length := by rw [ews, flat_txN, List.length_map]
    have lrows : rs.length = ws.length := by rw [ews, List.length_map]
    have rne : ∀ q ∈ rs, q ≠ [] := fun q hq z => hws.ne (q.map txN) (by rw [ews]; exact List.mem_map.mpr ⟨q, hq, rfl⟩) (by rw [z]; rfl)
    have rnd : rs.flatten.Nodup := by
      have := hws.nd
      rw [ews, flat_txN] at this
      exact nodup_un this
    -- what a wire's text says of these rings
    have ofC : ∀ im0, Canon t im0 → im0.length = n ∧ rs = rings (ap im0) n := fun im0 C => by
      have e1 : im0.length = n := txN_inj C.2.2.1 hn3 ((noC im0 C).1.symm.trans hdn)
      have e2 := hws.canon C (noC im0 C).2
      rw [ews] at e2
      have e3 := map_map_txN_inj hrs C.lt e2
      rw [e1] at e3
      exact ⟨e1, e3⟩
    have ofCall : ∀ im0, Canon t im0 → ∀ x ∈ rs.flatten, x < n := fun im0 C x hx => by
      obtain ⟨e1, e2⟩ := ofC im0 C
      rw [e2, ← e1] at hx
      rw [← e1]
      exact rings_lt C.1.perm hx
    obtain ⟨N, hN, hNle, hcase⟩ : ∃ N, (∀ x ∈ rs.flatten, x < N) ∧ N ≤ 1000 ∧ (N = n ∨ ∃ x ∈ rs.flatten, ¬ x < n) := by
      by_cases c : ∀ x ∈ rs.flatten, x < n
      · exact ⟨n, c, by omega, .inl rfl⟩
      · refine ⟨1000, hrs, Nat.le_refl _, .inr ?_⟩
        exact Classical.byContradiction fun z => c fun x hx => Classical.byContradiction fun y => z ⟨x, hx, y⟩
    obtain ⟨im, hI, hIl, R⟩ := perm_of_rings rne rnd hN
    have PF : PermF (ap im) N := by rw [← hIl]; exact hI.perm
    -- rings = with_integers(rings)
    refine ⟨_, rfl, o, as, rs, rfl, SqL.of (s3 _ _ ho), by rw [← ews]; exact hg.mono s3, hrs, by omega, by omega, fun o2 bs H4 s4 no2 ho2 hg2 => ?_⟩
    have s04 := s03.trans s4
    -- rings_text(rings_of(moves_of(rings)))
    refine ⟨_, rfl, o2, .non, bs, rs, rfl, SqL.of ho2, hg2, .inl rfl, rne, rnd, by omega, fun dd H5 s5 nd5 hd5 => ?_⟩
    rw [pairs_follow R.fol] at hd5
    refine ⟨dd, ap im, N, rs.flatten, rfl, hd5, R.moves hI hIl (by omega) hNle, fun o3 cs3 H6 s6 no3 _ _ _ ho3 hg3 => ?_⟩
    have rfew := (ringsOf_perm PF).few
    have rrow := rows_le (ws := rings (ap im) N) fun q hq => rings_ne PF hq
    refine ⟨o3, cs3, rings (ap im) N, rfl, SqL.of ho3, hg3, fun x hx => Nat.lt_of_lt_of_le (rings_lt PF hx) hNle, by omega, by omega, fun H7 s7 => ?_⟩
    have s07 := s04.trans (s5.trans (s6.trans s7))
    refine ⟨_, rfl, rfl, _, rfl, ?_⟩
    by_cases ceq : txA (rings (ap im) N) = r
    rotate_left
    · have e : (!decide (V.str (txA (rings (ap im) N)) = V.str r)) = true := by rw [decide_eq_false fun h => ceq (V.str.inj h)]; rfl
      rw [e]
      refine iteT ⟨_, rfl, bad s07 fun ⟨im0, C⟩ => ceq ?_⟩
      obtain ⟨e1, e2⟩ := ofC im0 C
      have eN : N = n := hcase.resolve_right fun ⟨x, hx, hlt⟩ => hlt (ofCall im0 C x hx)
      have R0 := ringsOf_perm C.1.perm
      rw [e1, ← e2, ← eN] at R0
      have ei : im = im0 := by
        refine ringsOf_inj (rs := rs) (by rw [hIl, e1, eN]) (by rw [hIl]; exact R) ?_
        rw [e1, ← eN]
        exact R0
      rw [(noC im0 C).2, e1, ← eN, ei]
    have e : (!decide (V.str (txA (rings (ap im) N)) = V.str r)) = false := by rw [decide_eq_true (by rw [ceq])]; rfl
    rw [e]
    refine iteF ?_
    -- the wire
    have hd640 : d.length ≤ 640 := by omega
    have s27 := s04.trans (s5.trans (s6.trans s7))
    have ho2' := (s5.trans (s6.trans s7)) _ _ ho2
    have hg2' := hg2.mono (s5.trans (s6.trans s7))
    refine ⟨_, rfl, d, (n : Int), rfl, by rw [hdn]; exact intText_all hn3, hd640, _, rfl, fun y dx ny ndx nex => ?_⟩
    have s8 : Same H7 (upd (upd H7 dx (.own y)) y (.ins C dx [])) := (same_upd ndx).trans (same_upd (by rw [upd_ne nex.symm]; exact ny))
    by_cases cn : 1 ≤ n
    · rcases hcase with eN | hb
      · have eN := eN.symm
        subst eN
        refine .inl ⟨y, dx, o2, n, ap im, bs, rs, rfl, upd_same, SqL.of (s8 _ _ ho2'), hg2'.mono s8, R, cn, by omega, fun l H9 k nl hx hl => ⟨rfl, ?_⟩⟩
        have s9 : Same H7 H9 := Same.made ny ndx k
        have CC : Canon t im := canon_of hI (by omega) (by omega) (by rw [ht, s_blank]) (by rw [hIl]; exact hdn) (by rw [hIl]; exact ceq.symm)
        refine q1 im CC y H9 (s07.trans s9) (s07.free ny) ⟨l, ⟨dx, by rw [hIl]; exact hx⟩, ?_⟩
        rw [← hIl, im_eq] at hl
        exact hl
      · obtain ⟨j, hbad⟩ := bad_at rne rnd (by omega) hb
        refine .inr ⟨y, dx, o2, (n : Int), rfl, upd_same, .inr ⟨n, bs, intR rs, j, rfl, cn, SqL.of (s8 _ _ ho2'), (hg2'.mono s8).int, hbad, fun d2 H9 s9 nd2 => ⟨eRR, fun a na => ?_⟩⟩⟩
        refine ⟨_, rfl, bad (s07.trans (s8.trans (s9.trans (same_upd nd2)))) fun ⟨im0, C⟩ => ?_⟩
        obtain ⟨x, hx, hlt⟩ := hb
        exact hlt (ofCall im0 C x hx)
    · refine .inr ⟨y, dx, o2, (n : Int), rfl, upd_same, .inl ⟨by omega, fun d2 nd2 => ⟨eSS, fun a na => ?_⟩⟩⟩
      refine ⟨_, rfl, bad (s07.trans (s8.trans (same_upd nd2))) fun ⟨im0, C⟩ => ?_⟩
      have := (ofC im0 C).1
      have := C.2.1
      omega
end
section
variable {P : Program} {w : World} {K : PySem.W.Frag} {mg : Str → Option Value} {base : Heap} {C CT : Addr}
abbrev s_Wire_getitem : Stmt := inClass (top 11) 8
theorem sc_Wire_getitem : FnScope ["self", "at"] ["self", "at"] (defScope s_Wire_getitem) := ⟨rfl, rfl, rfl, by decide +kernel, rfl, by decide +kernel, by decide +kernel⟩

def spGet (C : Addr) : Sp := fun vs H Q _ => ∃ (a : Addr) (im : List Nat) (i : Nat), vs = [.ref a, nv i] ∧ WireAt C H a im ∧ i < im.length ∧ Q (nv (ap im i)) H
theorem ok_Wire_getitem {f : Addr} {fd : FuncData} (F : Fun K "__getitem__" "Wire.__getitem__" s_Wire_getitem f fd) (T : Blt mg) (W : WTxt K C) : FnOk P w K mg base CX0 1 f fd ["self", "at"] (spGet C) := by
  refine F.ok sc_Wire_getitem (fun vs H Q E h => ?_) (fun cdv A outer s H vs Q E hr h => ?_)
  · obtain ⟨a, im, i, rfl, _⟩ := h; rfl
  · obtain ⟨a, im, i, rfl, ⟨l, ⟨dx, h1⟩, h2⟩, hi, q⟩ := h
    refine ⟨_, (pss_cons (ps_if (PW.pt (pw_or (pt_cmpR op_lt (pv 1) pe_int (nomark _)) (pw_or1 (pt_cmpR op_ge (pv 1) (pe_fld (pv 0) rfl) (nomark _))))) pss_never pss_nil)
    (pss_one (ps_ret (pe_ix ix_list (pe_fld (pv 0) rfl) (pv 1) (fun _ _ => rfl))))), ?_⟩
    refine ⟨_, rfl, _, _, rfl, rfl, _, rfl, decF (by omega) ?_⟩
    refine ⟨_, rfl, _, rfl, a, C, dx, _, _, rfl, h1, W.cl, W.nS, wF_size _ _, _, _, rfl, rfl, _, rfl, decF (by omega) ?_⟩
    exact ⟨_, rfl, a, C, dx, _, _, rfl, h1, W.cl, W.nI, wF_im _ _, _, rfl, l, _, _, _, rfl, rfl, SqL.of h2, atI_nat (nv_get (ap_get hi)), q⟩
/-! ### _law_is_wire -/
abbrev s_l_is_wire : Stmt := top 26
theorem sc_l_is_wire : FnScope ["_law_wire_here", "_law_images", "_law_place"] ["_law_wire_here", "_law_images"] (defScope s_l_is_wire) := ⟨rfl, rfl, rfl, by decide +kernel, rfl, by decide +kernel, by decide +kernel⟩

def spIsWire (K : PySem.W.Frag) (C : Addr) : Sp := fun vs H Q _ => ∃ (x a : Addr) (im : List Nat), vs = [.ref x, .ref a] ∧ WireAt C H x im ∧ SqL K H a (im.map nv) ∧ im.length ≤ 1000 ∧ ∀ H' : Hp, Same H H' → Q (.bl true) H'
theorem ok_l_is_wire {f : Addr} {fd : FuncData} (F : Fun K "_law_is_wire" "_law_is_wire" s_l_is_wire f fd) (T : WTop K mg C) (W : WTxt K C) (hfn : ∀ f, PySem.W.findIn K (.ref C) "__getitem__" = some (some (.ref f)) → PySem.W.fnIn K f = true)
    (D_Wire_getitem : MethOk P w K mg base CX0 1 C "__getitem__" ["self", "at"] [] (spGet C)) : FnOk P w K mg base CX0 3 f fd ["_law_wire_here", "_law_images"] (spIsWire K C) := by
  refine F.ok sc_l_is_wire (fun vs H Q E h => ?_) (fun cdv A outer s H vs Q E hr h => ?_)
  · obtain ⟨x, a, im, rfl, _⟩ := h; rfl
  · obtain ⟨x, a, im, rfl, hW, hS, hn, q⟩ := h
    obtain ⟨l, ⟨dx, h1⟩, h2⟩ := id hW
    have hu2 : (A.deeper (envOfC "_law_is_wire" (defScope s_l_is_wire) s.heap.objs.size f cdv)).units + 64 < cLine := by have := hr.un; omega
    refine ⟨_, (pss_cons (ps_if (PW.pt (pw_or (pt_not (pt_truth (pe_callB call_isi (by rfl) T.isinstance (by decide +kernel) (pa_cons (pv 0) (pa_cons (pe_glob (v := .ref _) rfl T.g_Wire rfl) pa_nil))) (by intro _; rfl))) (pw_or1 (pt_cmpR op_ne (pe_fld (pv 0) rfl) (pe_callB call_len_seq (by rfl) T.len PySem.boot_len (pa_cons (pv 1) pa_nil)) (nomark _))))) (pss_one (ps_ret pe_bl)) pss_nil)
    (pss_one (ps_ret (pe_cmpR (op_eqD hu2) (pe_lc (own := [("_law_place", 2)]) (tt := tYes) (te := tOp (rOwnIx C (spGet C) E0) (tVar 0) (tVar 2)) rfl sc_l_is_wire.nd (pi_range1 (by rfl) T.range (pa_cons (pe_callB call_len_seq (by rfl) T.len PySem.boot_len (pa_cons (pv 1) pa_nil)) pa_nil)) (blkOk_by (N := ["_law_wire_here", "_law_images", "_law_place"]) (sc := defScope s_l_is_wire) (by decide +kernel)) (fun _ _ _ _ _ => (pg_name (i := 2) sc_l_is_wire.nd rfl (.inl rfl))) (fun _ _ _ _ _ => pts_nil) (fun _ _ _ _ _ => by exact (pe_ownIx D_Wire_getitem hfn hr pass0 (pv 0) (pv 2)))) (pv 1) (nomark _))))), ?_⟩
    refine ⟨_, rfl, .ref x, .ref C, .ref C, .ref C, true, rfl, .own C, .base (.ins h1 T.cl T.cla T.hget T.htk T.hmro), kit_self, true, rfl, iteF ?_⟩
    refine ⟨_, rfl, x, C, dx, _, _, rfl, h1, W.cl, W.nS, wF_size _ _, _, rfl, a, _, rfl, .inl hS, rfl, _, rfl, ?_⟩
    have e0 : decide (nv im.length = V.int ((im.length : Nat) : Int)) = true := decide_eq_true rfl
    rw [List.length_map, e0]
    refine iteF ?_
    refine ⟨_, rfl, a, _, rfl, .inl hS, _, rfl, by omega, by rw [List.length_map]; omega, fun D nD => ?_⟩
    rw [Int.toNat_natCast, List.length_map]
    refine lc_range (lo := 0) (n := im.length) (fun i H1 => Same H H1 ∧ H1 D = some (.lst (((List.range i).map (ap im)).map nv))) ⟨same_upd nD, upd_same⟩ ?_ ?_
    · rintro i H1 hi ⟨s1, hD⟩
      rw [Int.zero_add]
      refine ⟨rfl, yesT ?_⟩
      refine ⟨_, rfl, _, rfl, x, dx, _, (i : Int), rfl, rfl, s1 _ _ h1, x, im, i, rfl, hW.mono s1, hi, _, hD, small64 (by rw [List.length_map, List.length_map, List.length_range]; omega), mutS s1 nD, ?_⟩
      rw [upd_same, List.range_succ, List.map_append, List.map_append]
      rfl
    · rintro H1 ⟨s1, hD⟩
      rw [im_eq] at hD
      refine ⟨_, rfl, _, _, dpI (SqL.of hD), dpI (s1.seq hS), shI _, shI _, ?_⟩
      rw [eqI, decide_eq_true rfl]
      exact q H1 s1
end
section
variable {P : Program} {w : World} {K : PySem.W.Frag} {mg : Str → Option Value} {base : Heap} {C CT : Addr}
/-! ### errors made in a suite -/
abbrev s_NoText_init : Stmt := inClass (top 8) 0
theorem sc_NoText_init : FnScope ["self", "text"] ["self", "text"] (defScope s_NoText_init) := ⟨rfl, rfl, rfl, by decide +kernel, rfl, by decide +kernel, by decide +kernel⟩

theorem ok_NoText_init {f : Addr} {fd : FuncData} (F : Fun K "__init__" "NoText.__init__" s_NoText_init f fd) (T : ErrC K C) (hno : PySem.W.findIn K (.ref C) "text" = some none) : FnOk P w K mg base CX0 1 f fd ["self", "text"] (spErr C "text") := by
  refine F.ok sc_NoText_init (fun vs H Q E h => ?_) (fun cdv A outer s H vs Q E hr h => ?_)
  · obtain ⟨a, v, rfl, _⟩ := h; rfl
  · obtain ⟨a, v, rfl, ha, q⟩ := h
    exact ⟨_, pss_one (ps_ost (pv 0) (pv 1)), _, rfl, _, rfl, a, C, rfl, T.oex, hno, .inl ⟨ha, fun dx n ne => q dx n ne⟩⟩
theorem ok_NoText_initH {f : Addr} {fd : FuncData} (F : Fun K "__init__" "NoText.__init__" s_NoText_init f fd) (T : ErrC K C) (hno : PySem.W.findIn K (.ref C) "text" = some none) : L2H.FnH P w K mg base CX0 1 f fd ["self", "text"] (spErr C "text") := by
  refine Fun.okH F sc_NoText_init (fun vs H Q E h => ?_) (fun cdv A outer s H vs Q E p hot hr h => ?_)
  · obtain ⟨a, v, rfl, _⟩ := h; rfl
  · obtain ⟨a, v, rfl, ha, q⟩ := h
    exact ⟨_, pss_one (ps_ost (pv 0) (pv 1)), _, rfl, _, rfl, a, C, rfl, T.oex, hno, .inl ⟨ha, fun dx n ne => q dx n ne⟩⟩
/-! ### _law_read -/
abbrev s_l_read : Stmt := top 33
theorem sc_l_read : FnScope ["_law_text_here", "_law_wire_here", "e"] ["_law_text_here"] (defScope s_l_read) := ⟨rfl, rfl, rfl, by decide +kernel, rfl, by decide +kernel, by decide +kernel⟩

def spLRead (C : Addr) : Sp := fun vs H Q _ => ∃ t : Str, vs = [.str t] ∧ Pre t ∧ (∀ im, Canon t im → ∀ (x : Addr) (H' : Hp), Same H H' → H x = none → WireAt C H' x im → Q (.ref x) H') ∧ ((¬ ∃ im, Canon t im) → ∀ H' : Hp, Same H H' → Q (.str t) H')
theorem ok_l_read {f : Addr} {fd : FuncData} (F : Fun K "_law_read" "_law_read" s_l_read f fd) (gW : mg "Wire" = some (.ref C)) (hE : ErrC K CT) (g : mg "NoText" = some (.ref CT)) (no : PySem.W.findIn K (.ref CT) "text" = some none) (exm : PySem.W.exmOne K (.ref CT) (.ref CT) = some true)
    (S_Wire_read : StatOk P w K mg base (L2.CX P w) 6 C "read" ["text"] [] (spRead K C CT)) : FnOk P w K mg base CX0 7 f fd ["_law_text_here"] (spLRead C) := by
  refine F.ok sc_l_read (fun vs H Q E h => ?_) (fun cdv A outer s H vs Q E hr h => ?_)
  · obtain ⟨t, rfl, _⟩ := h; rfl
  · obtain ⟨t, rfl, pre, q1, q2⟩ := h
    refine ⟨_, pss_cons (ps_try_as (i := 2) (tb := fun W => tAsg (tStatS C (spRead K C CT) (WE W) (tC (.ref C)) (tCons (tVar 0) tNil)) (gName 1)) (ts := fun a cls d => tRet (tXf a cls d CT "text" (tVar 2))) (Wout := fun _ _ _ _ => False)
        rfl rfl sc_l_read.nd rfl rfl ⟨rfl, by decide, Or.inl g⟩ takes0
        (fun W pn xe tk _ => pss_one (ps_set (i := 1) sc_l_read.nd rfl (.inl rfl) (by exact (pe_statS S_Wire_read hr (fun σ => passAt tk σ) (pe_glob (v := .ref _) rfl gW rfl) (pa_cons (pv 0) pa_nil)))))
        (fun a oe cls d pn hz hf => pss_one (ps_ret (by exact (pe_xf hE.xf no hz hf (pv 2))))))
      (pss_one (ps_ret (pv 1))), ?_⟩
    refine ⟨rfl, _, rfl, t, rfl, pre, fun im CC x H' s hx hw => ?_, fun nc d H' s nd => ?_⟩
    · exact ⟨_, rfl, q1 im CC x H' s hx hw⟩
    · refine ⟨true, exm, fun _ a0 _ => ?_, fun q => Bool.noConfusion q⟩
      exact ⟨_, rfl, rfl, rfl, d, _, _, rfl, upd_same, lk0, q2 nc _ (s.trans (same_upd nd))⟩
end
/-! ### a text one step away -/
/-- commas and closing signs -/
def wt (l : List Nat) : Nat := l.count 44 + l.count 41
theorem wt_app (a b : List Nat) : wt (a ++ b) = wt a + wt b := by unfold wt; rw [List.count_append, List.count_append]; omega
theorem wt_sub {a b : List Nat} (h : List.Sublist a b) : wt a ≤ wt b := Nat.add_le_add (h.count_le 44) (h.count_le 41)
theorem wt_le (a : List Nat) : wt a ≤ a.length := by
  induction a with
  | nil => exact Nat.le_refl _
  | cons x a ih =>
    have e : x :: a = [x] ++ a := rfl
    rw [e, wt_app, List.length_append]
    have : wt [x] ≤ 1 := by
      unfold wt
      rw [List.count_singleton, List.count_singleton]
      by_cases c : x = 44
      · subst c; decide
      · have : (x == 44) = false := beq_eq_false_iff_ne.mpr c
        rw [this]
        by_cases c : x = 41
        · subst c; decide
        · have : (x == 41) = false := beq_eq_false_iff_ne.mpr c
          rw [this]
          decide
    simp only [List.length_singleton]
    omega
theorem jn_comma : ∀ {ps : List (List Nat)}, ps ≠ [] → ps.length ≤ (jn [44] ps).count 44 + 1
  | [p], _ => by show 1 ≤ _; omega
  | p :: q :: r, _ => by
    have ih := jn_comma (ps := q :: r) (by simp)
    show (q :: r).length + 1 ≤ (p ++ [44] ++ jn [44] (q :: r)).count 44 + 1
    rw [List.count_append, List.count_append]
    have : [44].count 44 = 1 := rfl
    omega
theorem jn_cut : ∀ {ps : List (List Nat)}, ps ≠ [] → (ps.map fun p => p.count 44 + 1).sum ≤ wt (jn [41, 40] ps) + 1
  | [p], _ => by
    show p.count 44 + 1 + 0 ≤ p.count 44 + p.count 41 + 1
    omega
  | p :: q :: r, _ => by
    have ih := jn_cut (ps := q :: r) (by simp)
    show p.count 44 + 1 + ((q :: r).map fun p => p.count 44 + 1).sum ≤ wt (p ++ [41, 40] ++ jn [41, 40] (q :: r)) + 1
    rw [wt_app, wt_app]
    have : wt [41, 40] = 1 := rfl
    have : p.count 44 ≤ wt p := Nat.le_add_right _ _
    omega
theorem sum_le_sum {α : Type} {f g : α → Nat} : ∀ {l : List α}, (∀ x ∈ l, f x ≤ g x) → (l.map f).sum ≤ (l.map g).sum
  | [], _ => Nat.le_refl _
  | a :: l, h => by
    have := sum_le_sum (l := l) fun x hx => h x (List.mem_cons_of_mem _ hx)
    have := h a List.mem_cons_self
    rw [List.map_cons, List.map_cons, List.sum_cons, List.sum_cons]
    omega
theorem words_wt (r : Str) : (wordsOf r).flatten.length ≤ wt (cs (inn r)) + 1 := by
  have e : (wordsOf r).flatten.length = ((Txt.split (inn r) ")(").map fun b => (Txt.split b ",").length).sum := flat_sum (fun b => Txt.split b ",") _
  rw [e]
  have a : ((Txt.split (inn r) ")(").map fun b => (Txt.split b ",").length).sum ≤ ((Txt.split (inn r) ")(").map fun b => (cs b).count 44 + 1).sum := sum_le_sum fun b _ => by
    have h1 := cs_split b ","
    rw [cs_comma] at h1
    have h2 := jn_comma (ps := (Txt.split b ",").map cs) (by simp [split_ne])
    rw [← h1, List.length_map] at h2
    exact h2
  refine Nat.le_trans a ?_
  have h1 := cs_split (inn r) ")("
  rw [cs_cut] at h1
  have h2 := jn_cut (ps := (Txt.split (inn r) ")(").map cs) (by simp [split_ne])
  rw [← h1, List.map_map] at h2
  exact h2
theorem inn_sub (r : Str) : List.Sublist (cs (inn r)) (cs r) := (List.take_sublist _ _).trans (List.drop_sublist _ _)
theorem wt_digits {n : Nat} (h : n < 1000) : wt (cs (txN n)) = 0 := by
  unfold wt
  have hd : ∀ c ∈ cs (txN n), 48 ≤ c ∧ c ≤ 57 := by rw [dgs_all n h]; exact dgs_dig h
  rw [List.count_eq_zero.mpr fun hm => by have := hd _ hm; omega, List.count_eq_zero.mpr fun hm => by have := hd _ hm; omega]
theorem wt_bod : ∀ {r : List Nat}, r ≠ [] → (∀ x ∈ r, x < 1000) → wt (bod r) + 1 ≤ r.length
  | [x], _, h => by
    show wt (cs (txN x)) + 1 ≤ 1
    rw [wt_digits (h x (by simp))]
    exact Nat.le_refl _
  | x :: y :: r, _, h => by
    have ih := wt_bod (r := y :: r) (by simp) fun z hz => h z (List.mem_cons_of_mem _ hz)
    show wt (cs (txN x) ++ [44] ++ bod (y :: r)) + 1 ≤ (y :: r).length + 1
    rw [wt_app, wt_app, wt_digits (h x (by simp))]
    have : wt [44] = 1 := rfl
    omega
theorem wt_rings : ∀ {rs : List (List Nat)}, rs ≠ [] → (∀ r ∈ rs, r ≠ []) → (∀ x ∈ rs.flatten, x < 1000) → wt (jn [41, 40] (rs.map bod)) + 1 ≤ rs.flatten.length
  | [r], _, hn, hx => by
    have := wt_bod (hn r (by simp)) fun x h => hx x (by simpa using h)
    show wt (bod r) + 1 ≤ [r].flatten.length
    simpa using this
  | r :: q :: rs, _, hn, hx => by
    have a := wt_bod (hn r (by simp)) fun x h => hx x (by rw [List.flatten_cons]; exact List.mem_append_left _ h)
    have b := wt_rings (rs := q :: rs) (by simp) (fun z hz => hn z (List.mem_cons_of_mem _ hz)) fun x h => hx x (by rw [List.flatten_cons]; exact List.mem_append_right _ h)
    show wt (bod r ++ [41, 40] ++ jn [41, 40] ((q :: rs).map bod)) + 1 ≤ _
    rw [wt_app, wt_app, List.flatten_cons, List.length_append]
    have : wt [41, 40] = 1 := rfl
    omega
theorem wt_txA {rs : List (List Nat)} (hn : ∀ r ∈ rs, r ≠ []) (hx : ∀ x ∈ rs.flatten, x < 1000) : wt (cs (txA rs)) ≤ rs.flatten.length + 1 := by
  by_cases h : rs = []
  · rw [h, txA_nil, cs_both]; decide
  · have := wt_rings h hn hx
    rw [cs_txA h]
    have e : 40 :: (jn [41, 40] (rs.map bod) ++ [41]) = [40] ++ (jn [41, 40] (rs.map bod) ++ [41]) := rfl
    rw [e, wt_app, wt_app]
    have : wt [40] = 0 := rfl
    have : wt [41] = 1 := rfl
    omega
theorem txA_len2 {rs : List (List Nat)} (hx : ∀ x ∈ rs.flatten, x < 1000) : (txA rs).length ≤ rs.flatten.length * 5 + rs.length * 2 + 2 := by
  unfold txA
  split
  · have : (("()" : Str)).length = 2 := by decide +kernel
    omega
  · unfold txJ
    have a := join_le "" (rs.map txR)
    have b := txJ_sum hx
    rw [none_len, Nat.mul_zero] at a
    omega
theorem blank_at {s p q : List Nat} (h : 32 ∉ p) (e : s = p ++ 32 :: q) {k : Nat} (hk : s[k]? = some 32) : p.length ≤ k := by
  by_cases c : p.length ≤ k
  · exact c
  · rw [e, List.getElem?_append_left (by omega)] at hk
    exact absurd (List.mem_of_getElem? hk) h
/-- what a step of the spoiling leaves -/
theorem pre_step {im : List Nat} (hI : IsPerm im) (h1 : 1 ≤ im.length) (h2 : im.length ≤ 60) {s : Str} (S : Step (txW im) s) : Pre s := by
  have PF := hI.perm
  have lt : ∀ x ∈ (rings (ap im) im.length).flatten, x < 1000 := fun x hx => by have := rings_lt PF hx; omega
  have ne : ∀ r ∈ rings (ap im) im.length, r ≠ [] := fun r h => rings_ne PF h
  have few : (rings (ap im) im.length).flatten.length ≤ im.length := (ringsOf_perm PF).few
  have rows := rows_le ne
  have n3 : im.length < 1000 := by omega
  have dlen : (cs (txN im.length)).length ≤ 2 := by
    rw [cs_len, txN_length n3]
    repeat' split
    all_goals omega
  have e0 := cs_txW im
  have la : (cs (txA (rings (ap im) im.length))).length ≤ 422 := by
    have := txA_len2 lt
    rw [cs_len]
    omega
  have wa := wt_txA ne lt
  obtain ⟨i, j, m, hi, hj, hm, _, es⟩ := S
  have sub : List.Sublist ((cs (txW im)).take i ++ (cs (txW im)).drop j) (cs (txW im)) := by
    have a : List.Sublist ((cs (txW im)).drop j) ((cs (txW im)).drop i) := by
      rcases hj with rfl | rfl
      · exact List.Sublist.refl _
      · rw [← List.drop_drop]; exact List.drop_sublist _ _
    have b := List.Sublist.append_left a ((cs (txW im)).take i)
    rw [List.take_append_drop] at b
    exact b
  have wsum : wt (cs s) ≤ wt (cs (txW im)) + 1 := by
    have a := wt_sub sub
    rw [wt_app] at a
    have b := wt_le m
    rw [es, wt_app, wt_app]
    omega
  have wW : wt (cs (txW im)) ≤ 61 := by
    have e : cs (txN im.length) ++ 32 :: cs (txA (rings (ap im) im.length)) = cs (txN im.length) ++ ([32] ++ cs (txA (rings (ap im) im.length))) := rfl
    rw [e0, e, wt_app, wt_app, wt_digits n3]
    have : wt [32] = 0 := rfl
    omega
  have lsum : (cs s).length ≤ (cs (txW im)).length + 1 := by
    have a := sub.length_le
    rw [List.length_append] at a
    rw [es, List.length_append, List.length_append]
    omega
  have lW : (cs (txW im)).length ≤ 425 := by
    rw [e0, List.length_append, List.length_cons]
    omega
  have pf := partition_free s 32
  rw [← s_blank] at pf
  obtain ⟨p1, p2⟩ := pf
  have rsub : List.Sublist (cs (Txt.partition s " ").2.2) (cs s) := by
    rcases p2 with e | e
    · rw [e, cs_empty]; exact List.nil_sublist _
    · have e := congrArg cs e
      rw [cs_app, cs_app] at e
      rw [e]
      exact List.sublist_append_right _ _
  refine ⟨by rw [← cs_len]; omega, ?_, ?_⟩
  · rcases p2 with e | e
    · exact .inr e
    · left
      have e := congrArg cs e
      rw [cs_app, cs_app, cs_blank, List.append_assoc] at e
      have e : cs s = cs (Txt.partition s " ").1 ++ 32 :: cs (Txt.partition s " ").2.2 := e
      rw [← cs_len]
      generalize cs (Txt.partition s " ").1 = p at p1 e
      have hD : (cs (txW im))[(cs (txN im.length)).length]? = some 32 := by rw [e0]; simp
      generalize hDl : (cs (txN im.length)).length = D at dlen hD
      -- where the blank stands now
      by_cases c1 : D < i
      · have := blank_at p1 e (k := D) (by rw [es, List.append_assoc, List.getElem?_append_left (by rw [List.length_take]; omega), List.getElem?_take_of_lt c1]; exact hD)
        omega
      · by_cases c2 : j ≤ D
        · have := blank_at p1 e (k := i + m.length + (D - j)) (by
            rw [es, List.getElem?_append_right (by rw [List.length_append, List.length_take]; omega), List.getElem?_drop, List.length_append, List.length_take]
            rw [show j + (i + m.length + (D - j) - (min i (cs (txW im)).length + m.length)) = D by omega]
            exact hD)
          omega
        · have hiD : i = D := by omega
          have hjD : j = D + 1 := by omega
          have em : (32 : Nat) ∈ cs s := by rw [e]; simp
          rw [es, hiD, hjD, e0] at em
          have t1 : (cs (txN im.length) ++ 32 :: cs (txA (rings (ap im) im.length))).take D = cs (txN im.length) := by rw [← hDl]; simp
          have t2 : (cs (txN im.length) ++ 32 :: cs (txA (rings (ap im) im.length))).drop (D + 1) = cs (txA (rings (ap im) im.length)) := by
            rw [← hDl, List.drop_append, List.drop_eq_nil_of_le (Nat.le_succ _), show (cs (txN im.length)).length + 1 - (cs (txN im.length)).length = 1 by omega]
            rfl
          rw [t1, t2] at em
          have mem : (32 : Nat) ∈ m := by
            rcases List.mem_append.mp em with h | h
            · rcases List.mem_append.mp h with h | h
              · exact absurd h (no_blank n3)
              · exact h
            · exact absurd h (txA_no_blank lt)
          have m1 : m = [32] := match m, hm, mem with
            | [x], _, h => by rw [List.mem_singleton.mp h]
            | _ :: _ :: _, h, _ => by simp at h
          have := blank_at p1 e (k := D) (by
            rw [es, List.append_assoc, List.getElem?_append_right (by rw [List.length_take]; omega), List.length_take, m1]
            rw [show D - min i (cs (txW im)).length = 0 by omega]
            rfl)
          omega
  · have a := words_wt (Txt.partition s " ").2.2
    have b := wt_sub ((inn_sub (Txt.partition s " ").2.2).trans rsub)
    omega
theorem good_txW {im : List Nat} (hI : IsPerm im) (h2 : im.length < 1000) : ∀ c ∈ cs (txW im), c < 128 := by
  intro c hc
  rw [cs_txW] at hc
  have dg : ∀ c ∈ cs (txN im.length), c < 128 := fun c hc => by rw [dgs_all _ h2] at hc; have := dgs_dig h2 c hc; omega
  have lt : ∀ x ∈ (rings (ap im) im.length).flatten, x < 1000 := fun x hx => Nat.lt_trans (rings_lt hI.perm hx) h2
  rcases List.mem_append.mp hc with h | h
  · exact dg c h
  · rcases List.mem_cons.mp h with rfl | h
    · decide
    · by_cases z : rings (ap im) im.length = []
      · rw [z, txA_nil, cs_both] at h
        simp at h
        omega
      · rw [cs_txA z] at h
        rcases List.mem_cons.mp h with rfl | h
        · decide
        · rcases List.mem_append.mp h with h | h
          · rcases jn_mem h with e | ⟨p, hp, e⟩
            · simp at e
              omega
            · obtain ⟨r, hr, rfl⟩ := List.mem_map.mp hp
              rcases bod_sign (fun x hxr => lt x (List.mem_flatten.mpr ⟨r, hr, hxr⟩)) e with e | ⟨_, e⟩ <;> omega
          · rw [List.mem_singleton.mp h]
            decide
theorem good_step {im : List Nat} (hI : IsPerm im) (h2 : im.length < 1000) {s : Str} (S : Step (txW im) s) : Good s := by
  have g := good_txW hI h2
  obtain ⟨i, j, m, _, _, _, hm, es⟩ := S
  intro c hc
  rw [es] at hc
  have : c < 128 := by
    rcases List.mem_append.mp hc with h | h
    · rcases List.mem_append.mp h with h | h
      · exact g c (List.mem_of_mem_take h)
      · rcases hm c h with h | h
        · exact h
        · exact g c h
    · exact g c (List.mem_of_mem_drop h)
  omega
/-- a wire's text with few moved places -/
theorem pre_canon {t : Str} {im : List Nat} (C : Canon t im) (h : t.length ≤ 600) (few : (rings (ap im) im.length).flatten.length < 64) : Pre t := by
  refine ⟨h, .inl ?_, ?_⟩
  · rw [C.parts.1, txN_length C.2.2.1]
    repeat' split
    all_goals omega
  · rw [C.parts.2]
    by_cases z : rings (ap im) im.length = []
    · rw [z, txA_nil]
      have := (words_len ("()" : Str)).1
      have e : (("()" : Str)).length = 2 := by decide +kernel
      omega
    · rw [words_txA z (fun r h => rings_ne C.1.perm h) C.lt, flat_txN, List.length_map]
      exact few
/-! ### the great wire: one pair -/
def greatL (N k : Nat) : List Nat := ((List.range N).set 0 k).set k 0
theorem great_spec {N k : Nat} (h1 : 1 ≤ k) (h2 : k < N) : IsPerm (greatL N k) ∧ (greatL N k).length = N ∧ rings (ap (greatL N k)) N = [[0, k]] := by
  obtain ⟨im, hI, hl, R⟩ := perm_of_rings (n := N) (rs := [[0, k]]) (by intro r h; rw [List.mem_singleton.mp h]; simp) (by show [0, k].Nodup; simp; omega) (by intro x hx; have : x ∈ [0, k] := hx; simp at this; omega)
  have F : Follows (ap im) [0, k] := R.fol _ (by simp)
  have F := follows_iff.mp F
  have F : [k, 0] = [ap im 0, ap im k] := F
  have f0 : ap im 0 = k := (List.cons.inj F).1.symm
  have fk : ap im k = 0 := (List.cons.inj (List.cons.inj F).2).1.symm
  have st : ∀ x, x < N → x ≠ 0 → x ≠ k → ap im x = x := fun x hx a b => R.stay x hx (by show x ∉ [0, k]; simp [a, b])
  have e : greatL N k = im := by
    unfold greatL
    apply List.ext_getElem?
    intro x
    by_cases hx : x < N
    · have ex : im[x]? = some (ap im x) := ap_get (by rw [hl]; exact hx)
      rw [ex]
      by_cases a : x = k
      · subst a
        rw [List.getElem?_set_self (by simp only [List.length_set, List.length_range]; exact hx), fk]
      · rw [List.getElem?_set_ne (fun h => a h.symm)]
        by_cases b : x = 0
        · subst b
          rw [List.getElem?_set_self (by simp only [List.length_set, List.length_range]; exact hx), f0]
        · rw [List.getElem?_set_ne (fun h => b h.symm), List.getElem?_range hx, st x hx b a]
    · rw [List.getElem?_eq_none (by simp; omega), List.getElem?_eq_none (by omega)]
  rw [e]
  refine ⟨hI, hl, ?_⟩
  have P : PermF (ap im) N := by rw [← hl]; exact hI.perm
  have hN : 0 < N := by omega
  have mem : ∀ p, p ∈ heads (ap im) N N ↔ p = 0 := by
    intro p
    rw [mem_heads]
    constructor
    · rintro ⟨hp, ld, hm⟩
      by_cases a : p = 0
      · exact a
      · by_cases b : p = k
        · subst b
          have := (lead_iff _ _ _).mp ld 0 ((mem_ring P hp).mpr ⟨1, fk⟩)
          omega
        · exact absurd (st p hp a b) hm
    · rintro rfl
      exact ⟨hN, (lead_iff _ _ _).mpr fun x _ => Nat.zero_le x, by rw [f0]; omega⟩
  have hh : heads (ap im) N N = [0] := by
    have nd : (heads (ap im) N N).Nodup := List.nodup_range.sublist List.filter_sublist
    generalize heads (ap im) N N = l at mem nd
    match l with
    | [] => exact absurd ((mem 0).mpr rfl) (by simp)
    | [a] => rw [(mem a).mp (by simp)]
    | a :: b :: l =>
      have ha := (mem a).mp (by simp)
      have hb := (mem b).mp (by simp)
      rw [ha, hb] at nd
      simp at nd
  have hper : per (ap im) N 0 = 2 := by
    obtain ⟨p1, p2, _, p4⟩ := per_spec P hN
    have i2 : it (ap im) 2 0 = 0 := by show ap im (ap im 0) = 0; rw [f0, fk]
    have i1 : it (ap im) 1 0 = k := f0
    have : ¬ 2 < per (ap im) N 0 := fun h => p4 2 (by decide) h i2
    have : per (ap im) N 0 ≠ 1 := fun h => by
      rw [h, i1] at p2
      omega
    omega
  show (heads (ap im) N N).map (ring (ap im) N) = [[0, k]]
  rw [hh]
  show [ring (ap im) N 0] = _
  unfold ring
  rw [hper]
  show [[0, ap im 0]] = [[0, k]]
  rw [f0]
theorem great_canon {N k : Nat} (h1 : 1 ≤ k) (h2 : k < N) (h3 : N < 1000) : Canon (((txN N ++ (" (0," : Str)) ++ txN k) ++ (")" : Str)) (greatL N k) := by
  obtain ⟨hI, hl, hr⟩ := great_spec h1 h2
  refine ⟨hI, by omega, by omega, cs_inj ?_⟩
  have a : cs (" (0," : Str) = [32, 40, 48, 44] := by decide +kernel
  have z : cs (txN 0) = [48] := by decide +kernel
  rw [cs_txW, hl, hr, cs_txA (by simp), cs_app, cs_app, cs_app, a, cs_close]
  show _ = cs (txN N) ++ 32 :: 40 :: ((cs (txN 0) ++ [44] ++ cs (txN k)) ++ [41])
  rw [z]
  simp
section
variable {P : Program} {w : World} {K : PySem.W.Frag} {mg : Str → Option Value} {base : Heap} {C : Addr}
/-! ### _law_of_kind with a bound -/
def spKind2 : Sp := fun vs H Q _ => ∃ (k : Str) (z : V) (c : Int) (n d : Nat), vs = [.str k, z, .int c, nv n, nv d] ∧ (z = .non ∨ ∃ b : Nat, z = nv b) ∧ n ≤ 100 ∧
  ∀ (im : List Nat) (p : Addr) (H' : Hp), Same H H' → H p = none → H' p = some (.lst (im.map nv)) → IsPerm im → im.length = n → Q (.ref p) H'
theorem ok_l_of_kind2 {f : Addr} {fd : FuncData} (F : Fun K "_law_of_kind" "_law_of_kind" s_l_of_kind f fd) (T : Blt mg) (D_l_drawn : DefOk P w K mg base CX0 2 "_law_drawn" ["_law_cell_here", "_law_n"] [] spDrawn) :
    FnOk P w K mg base CX0 3 f fd ["_law_kind", "_law_bound", "_law_cell_here", "_law_n", "_law_draw"] spKind2 := by
  refine F.ok sc_l_of_kind (fun vs H Q E h => ?_) (fun cdv A outer s H vs Q E hr h => ?_)
  · obtain ⟨k, z, c, n, d, rfl, _⟩ := h; rfl
  · obtain ⟨k, z, c, n, d, rfl, hz, hn, q⟩ := h
    refine ⟨_, (pss_cons (ps_set (i := 5) sc_l_of_kind.nd rfl (.inl rfl) (pe_d D_l_drawn hr pass0 (pa_cons (pv 2) (pa_cons (pv 3) pa_nil))))
    (pss_cons (ps_if (pt_cmpR op_eq (pv 0) pe_str (nomark _)) (pss_one (ps_ret (pv 5))) pss_nil)
    (pss_cons (ps_set (i := 6) sc_l_of_kind.nd rfl (.inl rfl) (pe_listRg rfl (by rfl) T.list (prg_1 (by rfl) T.range (pv 3))))
    (pss_cons (ps_set (i := 7) sc_l_of_kind.nd rfl (.inl rfl) (pe_op op_fdiv (pv 3) pe_int))
    (pss_cons (ps_if (pt_cmpR op_eq (pv 0) pe_str (nomark _)) (pss_cons (ps_set (i := 7) sc_l_of_kind.nd rfl (.inl rfl) (pe_op op_mod (pv 4) (pe_op op_add (pe_op op_fdiv (pv 3) pe_int) pe_int)))
    (pss_one (ps_if (PW.pt (pw_and (pt_cmpR op_notN (pv 1) pe_non (nomark _)) (pw_and1 (pt_cmpR op_gt (pv 7) (pv 1) (nomark _))))) (pss_one (ps_set (i := 7) sc_l_of_kind.nd rfl (.inl rfl) (pv 1))) pss_nil))) pss_nil)
    (pss_cons (ps_for PassesOwn.never rfl (pi_range1 (by rfl) T.range (pa_cons (pv 7) pa_nil)) (pg_name (i := 8) sc_l_of_kind.nd rfl (.inl rfl)) (pss_cons (ps_asg (pe_ix ix_list (pv 5) (pe_op op_add (pe_op op_mul pe_int (pv 8)) pe_int) (fun _ _ => rfl)) (pg_sub (pv 6) (pe_ix ix_list (pv 5) (pe_op op_mul pe_int (pv 8)) (fun _ _ => rfl)) set_list))
    (pss_one (ps_asg (pe_ix ix_list (pv 5) (pe_op op_mul pe_int (pv 8)) (fun _ _ => rfl)) (pg_sub (pv 6) (pe_ix ix_list (pv 5) (pe_op op_add (pe_op op_mul pe_int (pv 8)) pe_int) (fun _ _ => rfl)) set_list)))))
    (pss_one (ps_ret (pv 6))))))))), ?_⟩
    refine ⟨_, rfl, _, rfl, c, n, rfl, hn, fun mx m H1 s1 nm hm hI hl => ?_⟩
    refine ⟨_, rfl, rfl, _, rfl, ite2 (fun _ => ⟨_, rfl, q mx m H1 s1 nm hm hI hl⟩) (fun _ => ?_)⟩
    -- out = list(range(n)); pairs = n // 2
    refine ⟨_, rfl, _, rfl, ⟨by omega, by omega, by omega, by omega, by omega⟩, fun o no => ?_⟩
    rw [rgV_nat]
    have s2 : Same H (upd H1 o (.lst ((List.range n).map nv))) := s1.trans (same_upd no)
    have nmo : m ≠ o := ne_of_none hm no
    refine ⟨_, rfl, _, _, rfl, rfl, ⟨by decide, by decide⟩, ?_⟩
    -- the loop, for any number of pairs
    have loop : ∀ (pr : Nat) (D : Ends), pr ≤ n / 2 → D.rt = Q →
        tSeq (tFor (iRng1 (tCons (tVar 7) tNil)) (gName 8) (tSeq (tAsg (tOp (rIxL K) (tVar 5) (tOp (rI0 fun i j => .int (i + j)) (tOp (rI CMul fun i j => .int (i * j)) (tC (.int 2)) (tVar 8)) (tC (.int 1)))) (gSub (tVar 6) (tOp (rIxL K) (tVar 5) (tOp (rI CMul fun i j => .int (i * j)) (tC (.int 2)) (tVar 8))) rSetL))
          (tAsg (tOp (rIxL K) (tVar 5) (tOp (rI CMul fun i j => .int (i * j)) (tC (.int 2)) (tVar 8))) (gSub (tVar 6) (tOp (rIxL K) (tVar 5) (tOp (rI0 fun i j => .int (i + j)) (tOp (rI CMul fun i j => .int (i * j)) (tC (.int 2)) (tVar 8)) (tC (.int 1)))) rSetL)))) (tRet (tVar 6)) D
          [some (.str k), some z, some (.int c), some (nv n), some (nv d), some (.ref m), some (.ref o), some (nv pr), none] (upd H1 o (.lst ((List.range n).map nv))) := fun pr D hpr hD => by
      refine ⟨_, rfl, (pr : Int), rfl, by omega, by omega, ?_⟩
      rw [Int.toNat_natCast]
      refine for_range (lo := 0) (n := pr) (fun i σ H2 => ∃ (v8 : Option V) (g : Nat → Nat), σ = [some (.str k), some z, some (.int c), some (nv n), some (nv d), some (.ref m), some (.ref o), some (nv pr), v8] ∧ H2 = upd H1 o (.lst (((List.range n).map g).map nv)) ∧ Swp mx n i g)
        ⟨none, id, rfl, by rw [List.map_id], Swp.start⟩ ?_ ?_
      · rintro i σ H2 hi ⟨v8, g, rfl, rfl, S⟩
        rw [Int.zero_add]
        obtain ⟨a, ha⟩ : ∃ a, mx[2 * i]? = some a := ⟨_, List.getElem?_eq_getElem (by omega)⟩
        obtain ⟨b, hb⟩ : ∃ b, mx[2 * i + 1]? = some b := ⟨_, List.getElem?_eq_getElem (by omega)⟩
        have han : a < n := by rw [← hl]; exact hI.lt a (List.mem_of_getElem? ha)
        have hbn : b < n := by rw [← hl]; exact hI.lt b (List.mem_of_getElem? hb)
        have hM : ∀ z, SqL K (upd H1 o z) m (mx.map nv) := fun z => SqL.of (by rw [upd_ne nmo]; exact hm)
        have ea : atI (mx.map nv) (2 * (i : Int)) = some (nv a) := by
          rw [show (2 * (i : Int)) = ((2 * i : Nat) : Int) by omega]
          exact atI_nat (nv_get ha)
        have eb : atI (mx.map nv) (2 * (i : Int) + 1) = some (nv b) := by
          rw [show (2 * (i : Int) + 1) = ((2 * i + 1 : Nat) : Int) by omega]
          exact atI_nat (nv_get hb)
        have ix : ∀ (l : List V) (z : Nat), l.length = n → z < n → ixN l.length (z : Int) = some z := fun l z hl hz => by
          unfold ixN
          rw [if_pos (by omega), if_pos (by omega)]
          simp
        refine ⟨_, rfl, _, rfl, _, _, rfl, rfl, .inl ⟨by decide, by decide⟩, _, _, rfl, rfl, m, _, _, _, rfl, rfl, hM _, eb, ?_⟩
        refine ⟨_, rfl, _, rfl, _, rfl, _, _, rfl, rfl, .inl ⟨by decide, by decide⟩, m, _, _, _, rfl, rfl, hM _, ea, ?_⟩
        refine ⟨o, _, _, a, rfl, rfl, upd_same, ix _ a (by rw [List.length_map, List.length_map, List.length_range]) han, ?_⟩
        rw [upd_upd]
        refine ⟨_, rfl, _, rfl, _, _, rfl, rfl, .inl ⟨by decide, by decide⟩, m, _, _, _, rfl, rfl, hM _, ea, ?_⟩
        refine ⟨_, rfl, _, rfl, _, rfl, _, _, rfl, rfl, .inl ⟨by decide, by decide⟩, _, _, rfl, rfl, m, _, _, _, rfl, rfl, hM _, eb, ?_⟩
        refine ⟨o, _, _, b, rfl, rfl, upd_same, ix _ b (by rw [List.length_set, List.length_map, List.length_map, List.length_range]) hbn, ?_⟩
        rw [upd_upd]
        refine ⟨_, swp g a b, rfl, ?_, S.more hI hl ha hb⟩
        congr 2
        rw [← swp_list, List.map_set, List.map_set]
      · rintro σ H2 ⟨v8, g, rfl, rfl, S⟩
        refine ⟨_, rfl, ?_⟩
        have e : D.rt (V.ref o) (upd H1 o (.lst (((List.range n).map g).map nv))) := by
          rw [hD]
          exact q _ o _ (mutS s1 (s1.free no)) (s1.free no) upd_same (isPerm_of_graph S.perm) (by rw [List.length_map, List.length_range])
        exact e
    refine ⟨_, rfl, rfl, _, rfl, ite2 (fun _ => ?_) (fun _ => ?_)⟩
    · refine ⟨_, rfl, _, rfl, _, _, rfl, rfl, ⟨by decide, by decide⟩, _, _, rfl, rfl, _, _, rfl, rfl, (by show (0 : Int) < (n : Int) / 2 + 1; omega), ?_⟩
      have e : V.int ((d : Int) % ((n : Int) / 2 + 1)) = nv (d % (n / 2 + 1)) := by
        show V.int _ = V.int _
        congr 1
      have small : d % (n / 2 + 1) ≤ n / 2 := by have := Nat.mod_lt d (show 0 < n / 2 + 1 by omega); omega
      rcases hz with rfl | ⟨b, rfl⟩
      · refine ⟨_, rfl, rfl, _, rfl, iteF (iteF ?_)⟩
        show tSeq _ _ _ [some (.str k), some .non, some (.int c), some (nv n), some (nv d), some (.ref m), some (.ref o), some (V.int ((d : Int) % ((n : Int) / 2 + 1))), none] _
        rw [e]
        exact loop _ _ small rfl
      · refine ⟨_, rfl, rfl, _, rfl, ?_⟩
        have e2 : (!decide (nv b = V.non)) = true := by rw [decide_eq_false fun h => by cases h]; rfl
        first
        | rw [e2]
        | skip
        refine iteT ⟨_, rfl, _, rfl, _, _, rfl, rfl, _, rfl, ?_⟩
        by_cases c3 : ((b : Nat) : Int) < (d : Int) % ((n : Int) / 2 + 1)
        · refine decT c3 ⟨_, rfl, ?_⟩
          have e3 := V.int.inj e
          have hb : b ≤ n / 2 := by omega
          exact loop b _ hb rfl
        · refine decF c3 ?_
          show tSeq _ _ _ [some (.str k), some (nv b), some (.int c), some (nv n), some (nv d), some (.ref m), some (.ref o), some (V.int ((d : Int) % ((n : Int) / 2 + 1))), none] _
          rw [e]
          exact loop _ _ small rfl
    · exact loop (n / 2) _ (Nat.le_refl _) rfl
end
section
variable {P : Program} {w : World} {K : PySem.W.Frag} {mg : Str → Option Value} {base : Heap} {C CT : Addr}
/-! ### the law -/
abbrev s_law : Stmt := top 34
theorem sc_law : FnScope ["_law_script", "_law_row_here", "_law_size_here", "_law_kind", "_law_images", "_law_wire_here", "_law_text_here", "_law_great", "_law_bad", "_law_due", "_law_turn", "_law_told"] ["_law_script"] (defScope s_law) := ⟨rfl, rfl, rfl, by decide +kernel, rfl, by decide +kernel, by decide +kernel⟩

def spLaw (K : PySem.W.Frag) : Sp := fun vs H Q _ => ∃ (a : Addr) (ns : List Int), vs = [.ref a] ∧ SqL K H a (ns.map V.int) ∧ ns.length ≤ 63 ∧ ∀ H', Q (.bl true) H'
set_option maxHeartbeats 2000000 in
theorem ok_law {f : Addr} {fd : FuncData} (F : Fun K "law" "law" s_law f fd) (T : WTop K mg C) (str : mg "str" = none)
    (D_l_cell : DefOk P w K mg base CX0 1 "_law_cell" ["_law_script", "_law_k"] [] (spCell K)) (D_l_row : DefOk P w K mg base CX0 1 "_law_row" ["_law_cell_here", "_law_sizes"] [] (spRow K))
    (D_l_size : DefOk P w K mg base CX0 1 "_law_size" ["_law_draw"] [] spSize) (D_l_of_kind : DefOk P w K mg base CX0 3 "_law_of_kind" ["_law_kind", "_law_bound", "_law_cell_here", "_law_n", "_law_draw"] [] spKind2)
    (D_l_wire : DefOk P w K mg base CX0 4 "_law_wire" ["_law_images"] [] (spLWire K C)) (D_l_rings : DefOk P w K mg base CX0 1 "_law_rings" ["_law_images"] [] (spRings K)) (D_l_text : DefOk P w K mg base CX0 1 "_law_text" ["_law_rings_here"] [] (spText K))
    (D_Wire_str : MethOk P w K mg base CX0 3 C "__str__" ["self"] [] (spStr C)) (D_l_is_wire : DefOk P w K mg base CX0 3 "_law_is_wire" ["_law_wire_here", "_law_images"] [] (spIsWire K C))
    (S_Wire_read : StatOk P w K mg base (L2.CX P w) 6 C "read" ["text"] [] (spRead K C CT)) (D_l_spoilt : DefOk P w K mg base CX0 2 "_law_spoilt" ["_law_text_here", "_law_kind", "_law_place", "_law_k"] [] spSpoilt)
    (D_l_images_of : DefOk P w K mg base CX0 2 "_law_images_of" ["_law_text_here"] [] spImagesOf) (D_l_read : DefOk P w K mg base CX0 7 "_law_read" ["_law_text_here"] [] (spLRead C)) :
    FnOk P w K mg base CX0 8 f fd ["_law_script"] (spLaw K) := by
  refine F.ok sc_law (fun vs H Q E h => ?_) (fun cdv A outer s H vs Q E hr h => ?_)
  · obtain ⟨a, ns, rfl, _⟩ := h; rfl
  · obtain ⟨a, ns, rfl, hS, hlen, q⟩ := h
    refine ⟨_, (pss_cons (ps_set (i := 1) sc_law.nd rfl (.inl rfl) (pe_d D_l_row hr pass0 (pa_cons (pe_d D_l_cell hr pass0 (pa_cons (pv 0) (pa_cons pe_int pa_nil))) (pa_cons (pe_lst (pa_cons pe_int (pa_cons pe_int (pa_cons pe_int (pa_cons pe_int (pa_cons pe_int (pa_cons pe_int pa_nil))))))) pa_nil))))
    (pss_cons (ps_set (i := 2) sc_law.nd rfl (.inl rfl) (pe_d D_l_size hr pass0 (pa_cons (pe_ix ix_list (pv 1) pe_int (fun _ _ => rfl)) pa_nil)))
    (pss_cons (ps_set (i := 3) sc_law.nd rfl (.inl rfl) (pe_ix ix_list (pe_lst (pa_cons pe_str (pa_cons pe_str (pa_cons pe_str pa_nil)))) (pe_ix ix_list (pv 1) pe_int (fun _ _ => rfl)) (fun _ _ => rfl)))
    (pss_cons (ps_set (i := 4) sc_law.nd rfl (.inl rfl) (pe_d D_l_of_kind hr pass0 (pa_cons (pv 3) (pa_cons (pe_ix ix_list (pe_lst (pa_cons pe_non (pa_cons pe_non (pa_cons pe_int pa_nil)))) (pe_ix ix_list (pv 1) pe_int (fun _ _ => rfl)) (fun _ _ => rfl)) (pa_cons (pe_d D_l_cell hr pass0 (pa_cons (pv 0) (pa_cons pe_int pa_nil))) (pa_cons (pv 2) (pa_cons (pe_ix ix_list (pv 1) pe_int (fun _ _ => rfl)) pa_nil)))))))
    (pss_cons (ps_set (i := 5) sc_law.nd rfl (.inl rfl) (pe_d D_l_wire hr pass0 (pa_cons (pv 4) pa_nil)))
    (pss_cons (ps_set (i := 6) sc_law.nd rfl (.inl rfl) (pe_op op_addS (pe_op op_addS (pe_callTy call_strI (by rfl) str (by decide +kernel) (pa_cons (pv 2) pa_nil)) pe_str) (pe_d D_l_text hr pass0 (pa_cons (pe_d D_l_rings hr pass0 (pa_cons (pv 4) pa_nil)) pa_nil))))
    (pss_cons (ps_if (PW.pt (pw_or (pt_cmpR op_ne (pe_callTy (call_strOwn D_Wire_str hr pass0) (by rfl) str (by decide +kernel) (pa_cons (pv 5) pa_nil)) (pv 6) (nomark _)) (pw_or1 (pt_not (pt_truth (pe_d D_l_is_wire hr pass0 (pa_cons (pe_stat S_Wire_read hr passL (pe_glob (v := .ref _) rfl T.g_Wire rfl) (pa_cons (pv 6) pa_nil)) (pa_cons (pv 4) pa_nil))) (by intro _; rfl)))))) (pss_one (ps_ret pe_bl)) pss_nil)
    (pss_cons (ps_set (i := 7) sc_law.nd rfl (.inl rfl) (pe_listRg rfl (by rfl) T.list (prg_1 (by rfl) T.range (pe_op op_add pe_int (pe_ix ix_list (pv 1) pe_int (fun _ _ => rfl))))))
    (pss_cons (ps_asg (pe_op op_add pe_int (pe_ix ix_list (pv 1) pe_int (fun _ _ => rfl))) (pg_sub (pv 7) pe_int set_list))
    (pss_cons (ps_asg pe_int (pg_sub (pv 7) (pe_op op_add pe_int (pe_ix ix_list (pv 1) pe_int (fun _ _ => rfl))) set_list))
    (pss_cons (ps_if (pt_not (pt_truth (pe_d D_l_is_wire hr pass0 (pa_cons (pe_stat S_Wire_read hr passL (pe_glob (v := .ref _) rfl T.g_Wire rfl) (pa_cons (pe_op op_addS (pe_op op_addS (pe_op op_addS (pe_callTy call_strI (by rfl) str (by decide +kernel) (pa_cons (pe_op op_add pe_int (pe_ix ix_list (pv 1) pe_int (fun _ _ => rfl))) pa_nil)) pe_str) (pe_callTy call_strI (by rfl) str (by decide +kernel) (pa_cons (pe_op op_add pe_int (pe_ix ix_list (pv 1) pe_int (fun _ _ => rfl))) pa_nil))) pe_str) pa_nil)) (pa_cons (pv 7) pa_nil))) (by intro _; rfl))) (pss_one (ps_ret pe_bl)) pss_nil)
    (pss_cons (ps_set (i := 8) sc_law.nd rfl (.inl rfl) (pe_d D_l_spoilt hr pass0 (pa_cons (pv 6) (pa_cons (pe_ix ix_list (pv 1) pe_int (fun _ _ => rfl)) (pa_cons (pe_ix ix_list (pv 1) pe_int (fun _ _ => rfl)) (pa_cons (pe_ix ix_list (pv 1) pe_int (fun _ _ => rfl)) pa_nil))))))
    (pss_cons (ps_set (i := 9) sc_law.nd rfl (.inl rfl) (pe_d D_l_images_of hr pass0 (pa_cons (pv 8) pa_nil)))
    (pss_cons (ps_for PassesOwn.never rfl (pi_range1 (by rfl) T.range (pa_cons pe_int pa_nil)) (pg_name (i := 10) sc_law.nd rfl (.inl rfl)) (pss_cons (ps_set (i := 11) sc_law.nd rfl (.inl rfl) (pe_d D_l_read hr pass0 (pa_cons (pv 8) pa_nil)))
    (pss_cons (ps_if (PW.pt (pw_and (pt_cmpR op_isN (pv 9) pe_non (nomark _)) (pw_and1 (pt_cmpR op_ne (pv 11) (pv 8) (nomark _))))) (pss_one (ps_ret pe_bl)) pss_nil)
    (pss_one (ps_if (PW.pt (pw_and (pt_cmpR op_notN (pv 9) pe_non (nomark _)) (pw_and1 (pt_not (pt_truth (pe_d D_l_is_wire hr pass0 (pa_cons (pv 11) (pa_cons (pv 9) pa_nil))) (by intro _; rfl)))))) (pss_one (ps_ret pe_bl)) pss_nil)))))
    (pss_one (ps_ret pe_bl)))))))))))))))), ?_⟩
    refine ⟨_, rfl, a, ns, 1, rfl, hS, fun z1 => ⟨by show 6 ≤ sizeLine; decide, fun L1 nL1 => ?_⟩⟩
    have t1 : Same H (upd H L1 (.lst [.int 96, .int 3, .int 60, .int 5, .int 400, .int 96])) := same_upd nL1
    refine ⟨z1, L1, [96, 3, 60, 5, 400, 96], rfl, SqL.of upd_same, by decide, by decide, fun ds row0 H1 s1 nr0 hr0 hl hb => ?_⟩
    obtain ⟨d0, d1, d2, d3, d4, d5, rfl⟩ : ∃ a b c d e f, ds = [a, b, c, d, e, f] := match ds, hl with | [a, b, c, d, e, f], _ => ⟨a, b, c, d, e, f, rfl⟩
    have hd1 : d1 < 3 := hb 1 d1 3 rfl rfl
    have hd2 : d2 < 60 := hb 2 d2 60 rfl rfl
    have hd4 : d4 < 400 := hb 4 d4 400 rfl rfl
    have t2 : Same H H1 := t1.trans s1
    have hu2 : (A.deeper (envOfC "law" (defScope s_law) s.heap.objs.size f cdv)).units + 64 < cLine := by have := hr.un; omega
    -- size
    refine ⟨_, rfl, row0, _, 0, nv d0, rfl, rfl, SqL.of hr0, atI_nat (j := 0) rfl, d0, rfl, fun n n1 n60 => ?_⟩
    -- kind
    refine ⟨by show 3 ≤ sizeLine; decide, fun kl nkl => ?_⟩
    have sk := same_upd (o := .lst [V.str "wire", V.str "swaps", V.str "swaps"]) nkl
    have hkl : (upd H1 kl (.lst [V.str "wire", V.str "swaps", V.str "swaps"])) kl = some (.lst [V.str "wire", V.str "swaps", V.str "swaps"]) := upd_same
    generalize upd H1 kl (.lst [V.str "wire", V.str "swaps", V.str "swaps"]) = H2 at sk hkl ⊢
    obtain ⟨ks, hks⟩ : ∃ ks : Str, atI [V.str "wire", V.str "swaps", V.str "swaps"] ((d1 : Nat) : Int) = some (V.str ks) := match d1, hd1 with
      | 0, _ => ⟨_, atI_nat (j := 0) rfl⟩
      | 1, _ => ⟨_, atI_nat (j := 1) rfl⟩
      | 2, _ => ⟨_, atI_nat (j := 2) rfl⟩
    have hr2 := sk _ _ hr0
    refine ⟨_, rfl, row0, _, 1, nv d1, rfl, rfl, SqL.of hr2, atI_nat (j := 1) rfl, kl, _, _, V.str ks, rfl, rfl, SqL.of hkl, hks, ?_⟩
    -- images
    refine ⟨_, rfl, ?_⟩
    refine ⟨by show 3 ≤ sizeLine; decide, fun bl nbl => ?_⟩
    have sb := same_upd (o := .lst [V.non, V.non, V.int 2]) nbl
    have hbl : (upd H2 bl (.lst [V.non, V.non, V.int 2])) bl = some (.lst [V.non, V.non, V.int 2]) := upd_same
    generalize upd H2 bl (.lst [V.non, V.non, V.int 2]) = H3 at sb hbl ⊢
    obtain ⟨z, hz, hzs⟩ : ∃ z : V, (z = .non ∨ ∃ b : Nat, z = nv b) ∧ atI [V.non, V.non, V.int 2] ((d1 : Nat) : Int) = some z := match d1, hd1 with
      | 0, _ => ⟨_, .inl rfl, atI_nat (j := 0) rfl⟩
      | 1, _ => ⟨_, .inl rfl, atI_nat (j := 1) rfl⟩
      | 2, _ => ⟨_, .inr ⟨2, rfl⟩, atI_nat (j := 2) rfl⟩
    have hr3 := sb _ _ hr2
    have t3 := t2.trans (sk.trans sb)
    refine ⟨_, rfl, row0, _, 1, nv d1, rfl, rfl, SqL.of hr3, atI_nat (j := 1) rfl, bl, _, _, z, rfl, rfl, SqL.of hbl, hzs, ?_⟩
    refine ⟨_, rfl, a, ns, 0, rfl, t3.seq hS, fun z2 => ?_⟩
    refine ⟨_, rfl, _, rfl, row0, _, 2, nv d2, rfl, rfl, SqL.of hr3, atI_nat (j := 2) rfl, ?_⟩
    refine ⟨ks, z, z2, n, d2, rfl, hz, by omega, fun im pi H4 s4 npi hpi hI hn => ?_⟩
    subst hn
    have t4 := t3.trans s4
    have hr4 := s4 _ _ hr3
    -- the wire
    refine ⟨_, rfl, pi, im, rfl, SqL.of hpi, hI, n1, by omega, fun x lx H5 s5 nx nlx hWL => ?_⟩
    have WX : WireAt C H5 x im := ⟨lx, hWL⟩
    have hr5 := s5 _ _ hr4
    have hpi5 := s5 _ _ hpi
    -- its text
    have P := hI.perm
    have lt7 : ∀ y ∈ (rings (ap im) im.length).flatten, y < 1000 := fun y hy => Nat.lt_of_lt_of_le (rings_lt P hy) (by omega)
    have fewR := (ringsOf_perm P).few
    have rowR := rows_le (ws := rings (ap im) im.length) fun r hr => rings_ne P hr
    have l1 := txN_len (n := im.length) (by omega)
    have l4 : ((" " : Str)).length = 1 := by decide +kernel
    have l2 : (txN im.length ++ (" " : Str)).length ≤ 5 := by rw [app_len]; omega
    have l3 := txA_len2 lt7
    refine ⟨_, rfl, (im.length : Int), rfl, by rw [Int.natAbs_natCast]; exact Nat.lt_of_le_of_lt (Nat.log2_le_self _) (by omega), _, _, rfl, rfl, by show (txN im.length).length + _ ≤ _; rw [l4, sizeLine_eq]; omega, ?_⟩
    refine ⟨_, rfl, pi, im, rfl, SqL.of hpi5, hI, by omega, fun o as H6 s6 no _ _ _ ho hg => ?_⟩
    refine ⟨o, as, _, rfl, SqL.of ho, hg, lt7, by omega, by omega, fun H7 s7 => ?_⟩
    refine ⟨_, _, rfl, rfl, by show (txN im.length ++ (" " : Str)).length + _ ≤ _; rw [sizeLine_eq]; omega, ?_⟩
    have CT0 : Canon ((txN im.length ++ (" " : Str)) ++ txA (rings (ap im) im.length)) im := canon_of2 hI n1 (by omega) rfl
    have et : ((txN im.length ++ (" " : Str)) ++ txA (rings (ap im) im.length)) = txW im := CT0.2.2.2
    generalize hT : ((Str.ofString (toString ((im.length : Nat) : Int)) ++ (" " : Str)) ++ txA (rings (ap im) im.length)) = T
    have hT : T = txW im := hT.symm.trans et
    subst hT
    rw [et] at CT0
    have lT : (txW im).length ≤ 600 := by rw [← et, app_len]; omega
    have preT : Pre (txW im) := pre_canon CT0 lT (by omega)
    have WX7 := WX.mono (s6.trans s7)
    obtain ⟨lx7, ⟨dx7, hx7⟩, hlx7⟩ := id WX7
    have t7 := t4.trans (s5.trans (s6.trans s7))
    have hr7 := s7 _ _ (s6 _ _ hr5)
    have hpi7 := s7 _ _ (s6 _ _ hpi5)
    -- str(wire) != text or not is_wire(Wire.read(text), images)
    refine ⟨_, rfl, x, dx7, _, rfl, hx7, x, im, rfl, WX7, hI, n60, fun H8 s8 => ⟨_, rfl, _, rfl, rfl, _, rfl, ?_⟩⟩
    have e1 : (!decide (V.str (txW im) = V.str (txW im))) = false := by rw [decide_eq_true rfl]; rfl
    rw [e1]
    refine iteF ⟨rfl, _, rfl, txW im, rfl, preT, fun im' C' x2 H9 s9 nx2 hw2 => ?_, fun nc => absurd ⟨im, CT0⟩ nc⟩
    have ei := C'.inj CT0
    subst ei
    refine ⟨_, rfl, x2, pi, im', rfl, hw2, SqL.of (s9 _ _ (s8 _ _ hpi7)), by omega, fun H10 s10 => ⟨_, rfl, ?_⟩⟩
    have t10 := t7.trans (s8.trans (s9.trans s10))
    have hr10 := s10 _ _ (s9 _ _ (s8 _ _ hr7))
    refine iteF ?_
    have eN : (100 + (d4 : Int)) = ((100 + d4 : Nat) : Int) := by omega
    have ek : (1 + (d2 : Int)) = ((1 + d2 : Nat) : Int) := by omega
    -- great
    refine ⟨_, rfl, row0, _, 4, nv d4, rfl, rfl, SqL.of hr10, atI_nat (j := 4) rfl, _, _, rfl, rfl, ((100 + d4 : Nat) : Int), (by show V.int (100 + (d4 : Int)) = _; rw [eN]), RgOk.of_le (by omega) (by omega) (by omega) (by omega), fun G nG => ?_⟩
    rw [rgV_nat]
    generalize hNd : 100 + d4 = N at eN
    generalize hkd : 1 + d2 = k at ek
    have hk1 : 1 ≤ k := by omega
    have hkN : k < N := by omega
    have hN3 : N < 1000 := by omega
    have nG0 : H G = none := t10.free nG
    have rG : row0 ≠ G := fun e => by rw [← e, hr10] at nG; cases nG
    have iG : pi ≠ G := fun e => by rw [← e, s10 _ _ (s9 _ _ (s8 _ _ hpi7))] at nG; cases nG
    have t11 : ∀ o, Same H (upd H10 G o) := fun o => mutS t10 nG0
    have hr11 : ∀ o, (upd H10 G o) row0 = some (.lst ([d0, d1, d2, d3, d4, d5].map nv)) := fun o => by rw [upd_ne rG]; exact hr10
    have ix : ∀ (l : List V) (z : Nat), l.length = N → z < N → ixN l.length (z : Int) = some z := fun l z hl hz => by
      unfold ixN
      rw [if_pos (by omega), if_pos (by omega)]
      simp
    refine ⟨_, rfl, row0, _, 2, nv d2, rfl, rfl, SqL.of (hr11 _), atI_nat (j := 2) rfl, _, _, rfl, rfl, _, rfl, G, _, _, 0, rfl, rfl, upd_same, ix _ 0 (by rw [List.length_map, List.length_range]) (by omega), ?_⟩
    rw [upd_upd]
    refine ⟨_, rfl, _, rfl, row0, _, 2, nv d2, rfl, rfl, SqL.of (hr11 _), atI_nat (j := 2) rfl, _, _, rfl, rfl, G, _, ((k : Nat) : Int), k, rfl, (by show V.int (1 + (d2 : Int)) = _; rw [ek]), upd_same, ix _ k (by rw [List.length_set, List.length_map, List.length_range]) hkN, ?_⟩
    rw [upd_upd]
    have eG : ((((List.range N).map nv).set 0 (V.int (1 + (d2 : Int)))).set k (V.int 0)) = (greatL N k).map nv := by
      unfold greatL
      rw [ek, List.map_set, List.map_set]
      rfl
    have hGG : (upd H10 G (.lst ((((List.range N).map nv).set 0 (V.int (1 + (d2 : Int)))).set k (V.int 0)))) G = some (.lst ((greatL N k).map nv)) := by rw [upd_same, eG]
    have GC := great_canon hk1 hkN hN3
    obtain ⟨gI, gl, gr⟩ := great_spec hk1 hkN
    have lN := txN_len hN3
    have lk := txN_len (n := k) (by omega)
    have l5 : ((" (0," : Str)).length = 4 := by decide +kernel
    have l6 : ((")" : Str)).length = 1 := by decide +kernel
    have lGT : (((txN N ++ (" (0," : Str)) ++ txN k) ++ (")" : Str)).length ≤ 600 := by rw [app_len, app_len, app_len]; omega
    have preG : Pre (((txN N ++ (" (0," : Str)) ++ txN k) ++ (")" : Str)) := pre_canon GC lGT (by rw [gl, gr]; show 2 < 64; decide)
    have lg : ∀ n : Nat, n < 1000 → ((n : Int)).natAbs.log2 < 1920 := fun n h => by rw [Int.natAbs_natCast]; exact Nat.lt_of_le_of_lt (Nat.log2_le_self _) (by omega)
    refine ⟨rfl, _, rfl, row0, _, 4, nv d4, rfl, rfl, SqL.of (hr11 _), atI_nat (j := 4) rfl, _, _, rfl, rfl, ((N : Nat) : Int), (by show [V.int (100 + (d4 : Int))] = _; rw [eN]), lg N hN3, _, _, rfl, rfl, (by show (txN N).length + _ ≤ _; rw [l5, sizeLine_eq]; omega), ?_⟩
    refine ⟨_, rfl, row0, _, 2, nv d2, rfl, rfl, SqL.of (hr11 _), atI_nat (j := 2) rfl, _, _, rfl, rfl, ((k : Nat) : Int), (by show [V.int (1 + (d2 : Int))] = _; rw [ek]), lg k (by omega), _, _, rfl, rfl, (by show (txN N ++ (" (0," : Str)).length + (txN k).length ≤ _; rw [app_len, l5, sizeLine_eq]; omega), _, _, rfl, rfl,
      (by show ((txN N ++ (" (0," : Str)) ++ txN k).length + _ ≤ _; rw [app_len, app_len, l5, l6, sizeLine_eq]; omega), ?_⟩
    refine ⟨((txN N ++ (" (0," : Str)) ++ txN k) ++ (")" : Str), rfl, preG, fun gm C' x3 H12 s12 nx3 hw3 => ?_, fun nc => absurd ⟨_, GC⟩ nc⟩
    have eg := C'.inj GC
    subst eg
    refine ⟨_, rfl, x3, G, greatL N k, rfl, hw3, SqL.of (s12 _ _ hGG), by omega, fun H13 s13 => ⟨_, rfl, iteF ?_⟩⟩
    have t13 := (t11 (.lst ((((List.range N).map nv).set 0 (V.int (1 + (d2 : Int)))).set k (V.int 0)))).trans (s12.trans s13)
    have hr13 := s13 _ _ (s12 _ _ (hr11 (.lst ((((List.range N).map nv).set 0 (V.int (1 + (d2 : Int)))).set k (V.int 0)))))
    -- bad
    refine ⟨_, rfl, _, rfl, row0, _, 3, nv d3, rfl, rfl, SqL.of hr13, atI_nat (j := 3) rfl, _, rfl, row0, _, 4, nv d4, rfl, rfl, SqL.of hr13, atI_nat (j := 4) rfl, _, rfl, row0, _, 5, nv d5, rfl, rfl, SqL.of hr13, atI_nat (j := 5) rfl, ?_⟩
    refine ⟨txW im', d3, d4, d5, rfl, by omega, fun B hB => ?_⟩
    have preB : Pre B := pre_step hI n1 n60 hB
    have gdB : Good B := good_step hI (by omega) hB
    -- due
    refine ⟨_, rfl, B, rfl, preB.len, gdB, fun jm CJ o H14 s14 no ho => ?_, fun nc H14 s14 => ?_⟩
    · refine ⟨2, rfl, by decide, by decide, ?_⟩
      refine for_range (lo := 0) (n := 2) (fun i σ H' => ∃ v10 v11 : Option V, σ = [some (.ref a), some (.ref row0), some (nv im'.length), some (.str ks), some (.ref pi), some (.ref x), some (.str (txW im')), some (.ref G), some (.str B), some (.ref o), v10, v11] ∧ Same H14 H')
        ⟨none, none, rfl, Same.refl _⟩ ?_ ?_
      · rintro i σ H' hi ⟨v10, v11, rfl, s'⟩
        refine ⟨_, rfl, B, rfl, preB, fun km CK x4 H15 s15 nx4 hw4 => ?_, fun nc => absurd ⟨jm, CJ⟩ nc⟩
        have ekm := CK.inj CJ
        subst ekm
        refine ⟨_, rfl, rfl, _, rfl, ?_⟩
        have e3 : decide (V.ref o = V.non) = false := decide_eq_false fun h => by cases h
        rw [e3]
        refine iteF (iteF ?_)
        refine ⟨_, rfl, rfl, _, rfl, ?_⟩
        rw [e3]
        refine iteT ⟨_, rfl, _, rfl, x4, o, km, rfl, hw4, SqL.of (s15 _ _ (s' _ _ ho)), by have := CK.2.2.1; omega, fun H16 s16 => ⟨_, rfl, iteF ?_⟩⟩
        exact ⟨_, _, rfl, s'.trans (s15.trans s16)⟩
      · rintro σ H' ⟨v10, v11, rfl, s'⟩
        exact q H'
    · refine ⟨2, rfl, by decide, by decide, ?_⟩
      refine for_range (lo := 0) (n := 2) (fun i σ H' => ∃ v10 v11 : Option V, σ = [some (.ref a), some (.ref row0), some (nv im'.length), some (.str ks), some (.ref pi), some (.ref x), some (.str (txW im')), some (.ref G), some (.str B), some .non, v10, v11])
        ⟨none, none, rfl⟩ ?_ ?_
      · rintro i σ H' hi ⟨v10, v11, rfl⟩
        refine ⟨_, rfl, B, rfl, preB, fun km CK => absurd ⟨km, CK⟩ nc, fun _ H15 s15 => ?_⟩
        refine ⟨_, rfl, rfl, _, rfl, ?_⟩
        have e3 : decide (V.non = V.non) = true := decide_eq_true rfl
        rw [e3]
        have e4 : (!decide (V.str B = V.str B)) = false := by rw [decide_eq_true rfl]; rfl
        refine iteT ⟨_, rfl, _, rfl, rfl, _, rfl, ?_⟩
        rw [e4]
        refine iteF ?_
        refine ⟨_, rfl, rfl, _, rfl, ?_⟩
        rw [e3]
        refine iteF (iteF ?_)
        exact ⟨_, _, rfl⟩
      · rintro σ H' ⟨v10, v11, rfl⟩
        exact q H'
end
section
variable {P : Program} {w : World} {K : PySem.W.Frag} {mg : Str → Option Value} {base : Heap} {C : Addr}
abbrev s_NoSize_init : Stmt := inClass (top 4) 0
theorem sc_NoSize_init : FnScope ["self", "size"] ["self", "size"] (defScope s_NoSize_init) := ⟨rfl, rfl, rfl, by decide +kernel, rfl, by decide +kernel, by decide +kernel⟩

theorem ok_NoSize_init {f : Addr} {fd : FuncData} (F : Fun K "__init__" "NoSize.__init__" s_NoSize_init f fd) (T : ErrC K C) (hno : PySem.W.findIn K (.ref C) "size" = some none) : FnOk P w K mg base CX0 1 f fd ["self", "size"] (spErr C "size") := by
  refine F.ok sc_NoSize_init (fun vs H Q E h => ?_) (fun cdv A outer s H vs Q E hr h => ?_)
  · obtain ⟨a, v, rfl, _⟩ := h; rfl
  · obtain ⟨a, v, rfl, ha, q⟩ := h
    exact ⟨_, pss_one (ps_ost (pv 0) (pv 1)), _, rfl, _, rfl, a, C, rfl, T.oex, hno, .inl ⟨ha, fun dx n ne => q dx n ne⟩⟩
abbrev s_NoRing_init : Stmt := inClass (top 5) 0
theorem sc_NoRing_init : FnScope ["self", "index"] ["self", "index"] (defScope s_NoRing_init) := ⟨rfl, rfl, rfl, by decide +kernel, rfl, by decide +kernel, by decide +kernel⟩

theorem ok_NoRing_init {f : Addr} {fd : FuncData} (F : Fun K "__init__" "NoRing.__init__" s_NoRing_init f fd) (T : ErrC K C) (hno : PySem.W.findIn K (.ref C) "index" = some none) : FnOk P w K mg base CX0 1 f fd ["self", "index"] (spErr C "index") := by
  refine F.ok sc_NoRing_init (fun vs H Q E h => ?_) (fun cdv A outer s H vs Q E hr h => ?_)
  · obtain ⟨a, v, rfl, _⟩ := h; rfl
  · obtain ⟨a, v, rfl, ha, q⟩ := h
    exact ⟨_, pss_one (ps_ost (pv 0) (pv 1)), _, rfl, _, rfl, a, C, rfl, T.oex, hno, .inl ⟨ha, fun dx n ne => q dx n ne⟩⟩
end
/-! ### the classes in the written part -/
abbrev veT : List Value := [.type "ValueError", .type "Exception", .type "BaseException", .type "object"]
def ErrAt (K : PySem.W.Frag) (C W : Addr) : Prop := ∃ nm q N bs sn sub ab col dd k0 k1 k2 k3 k5, K.lookup C = some (excClassObj nm q C N bs (.ref W :: veT) true sn sub ab col dd k0 k1 k2 k3 k5 "ValueError.__new__")
def ErrAt' (K : PySem.W.Frag) (C : Addr) : Prop := ∃ nm q N bs bm sn sub ab col dd k0 k1 k2 k3 k5, K.lookup C = some (excClassObj nm q C N bs bm true sn sub ab col dd k0 k1 k2 k3 k5 "ValueError.__new__")
section
variable {K : PySem.W.Frag} {C D W : Addr}
theorem ErrAt.to (h : ErrAt K C W) : ErrAt' K C := by
  obtain ⟨nm, q, N, bs, sn, sub, ab, col, dd, k0, k1, k2, k3, k5, e⟩ := h
  exact ⟨nm, q, N, bs, _, sn, sub, ab, col, dd, k0, k1, k2, k3, k5, e⟩
theorem ErrAt'.ok (h : ErrAt' K C) : ((PySem.W.clsIn K C).isSome && PySem.W.typeIn K (.ref C) == some (.type "type")) = true := by
  obtain ⟨nm, q, N, bs, bm, sn, sub, ab, col, dd, k0, k1, k2, k3, k5, e⟩ := h
  have ty : PySem.W.typeIn K (.ref C) = some (.type "type") := by
    show (K.lookup C).map (·.cls) = _
    rw [e]
    rfl
  rw [ty]
  unfold PySem.W.clsIn
  rw [e]
  simp
theorem ErrAt.sub (h : ErrAt K C W) (v : Value) : PySem.W.subIn K (.ref C) v = some ((Value.ref C :: .ref W :: veT).contains v) := by
  obtain ⟨nm, q, N, bs, sn, sub, ab, col, dd, k0, k1, k2, k3, k5, e⟩ := h
  show PySem.W.mroIn K C v = _
  unfold PySem.W.mroIn PySem.W.clsIn
  rw [e]
  rfl
theorem ErrAt.errC (h : ErrAt K C W) (sa : PySem.W.findIn K (.ref C) "__setattr__" = some (some (.builtin "object.__setattr__"))) (ga : PySem.W.findIn K (.ref C) "__getattribute__" = some (some (.builtin "BaseException.__getattribute__")))
    (gg : PySem.W.findIn K (.ref C) "__getattr__" = some none) (cl : PySem.W.findIn K (.ref C) "__class__" = some (some (.builtin "object.__class__"))) (kc : PySem.W.keepIn K (.ref C) = true)
    (hget : PySem.W.specialIn K (.builtin "object.__class__") "__get__" = some (some (.builtin "getset_descriptor.__get__"))) (htk : PySem.W.takesIn K (.builtin "object.__class__") = some true) : ErrC K C := by
  have b : PySem.W.subIn K (.ref C) (.type "BaseException") = some true := by
    rw [h.sub]
    simp
  have o : PySem.W.mroIn K C (.type "object") = some true := by
    have z := h.sub (.type "object")
    have e : (Value.ref C :: .ref W :: veT).contains (.type "object") = true := by simp
    rw [e] at z
    exact z
  obtain ⟨nm, q, N, bs, sn, sub, ab, col, dd, k0, k1, k2, k3, k5, e⟩ := id h
  have hd : PySem.W.hasDictIn K C = true := by unfold PySem.W.hasDictIn PySem.W.clsIn; rw [e]; rfl
  have ty : PySem.W.typeIn K (.ref C) = some (.type "type") := by show (K.lookup C).map (·.cls) = _; rw [e]; rfl
  exact ⟨⟨⟨nm, q, N, bs, _, sn, sub, ab, col, dd, k0, k1, k2, k3, k5, e, (by show PySem.HandSPX.refsVE veT = true; decide +kernel)⟩, sa, b, ty, kc⟩, ⟨ga, gg, b, hd⟩, ⟨ga, gg, b, hd, cl, hget, htk, o⟩⟩
theorem ErrAt.kitV (h : ErrAt K C W) : PySem.W.kitOne K (.ref C) (.type "ValueError") = some true := by
  unfold PySem.W.kitOne PySem.W.kitCls
  rw [if_neg (by simp)]
  show (if PySem.W.kitMeta "ValueError" = true then _ else _) = _
  rw [if_pos (by decide +kernel), h.sub]
  simp
theorem ErrAt.kitW (h : ErrAt K C W) (hW : ErrAt' K W) : PySem.W.kitOne K (.ref C) (.ref W) = some true := by
  unfold PySem.W.kitOne PySem.W.kitCls
  by_cases c : C = W
  · rw [if_pos (by rw [c]; exact beq_self_eq_true _)]
  · rw [if_neg (by intro z; exact c (Value.ref.inj (beq_iff_eq.mp z)))]
    show (if _ then _ else _) = _
    rw [if_pos hW.ok, h.sub]
    simp
theorem ErrAt.kitD (h : ErrAt K C W) (hD : ErrAt K D W) (ne : D ≠ W) : PySem.W.kitOne K (.ref C) (.ref D) = some (decide (D = C)) := by
  unfold PySem.W.kitOne PySem.W.kitCls
  by_cases c : C = D
  · rw [if_pos (by rw [c]; exact beq_self_eq_true _), decide_eq_true c.symm]
  · rw [if_neg (by intro z; exact c (Value.ref.inj (beq_iff_eq.mp z)))]
    show (if _ then _ else _) = _
    rw [if_pos hD.to.ok, h.sub, decide_eq_false (fun z => c z.symm)]
    have : (Value.ref C :: .ref W :: veT).contains (.ref D) = false := by
      rw [Bool.eq_false_iff]
      intro z
      rw [List.contains_iff_mem] at z
      rcases List.mem_cons.mp z with z | z
      · exact c (Value.ref.inj z).symm
      rcases List.mem_cons.mp z with z | z
      · exact ne (Value.ref.inj z)
      · simp at z
    rw [this]
theorem nod_ne {l : List Addr} {w : Addr} (h : (l ++ [w]).Nodup) {i j : Nat} (hi : i < l.length) (hj : j < l.length) : decide (l.getD j 0 = l.getD i 0) = decide (j = i) ∧ l.getD j 0 ≠ w := by
  have hl := (List.nodup_append.mp h).1
  have gi : l.getD i 0 = l[i] := by rw [List.getD_eq_getElem?_getD, List.getElem?_eq_getElem hi]; rfl
  have gj : l.getD j 0 = l[j] := by rw [List.getD_eq_getElem?_getD, List.getElem?_eq_getElem hj]; rfl
  constructor
  · by_cases c : j = i
    · subst c
      rw [decide_eq_true rfl, decide_eq_true rfl]
    · rw [decide_eq_false c, decide_eq_false]
      rw [gi, gj]
      intro z
      exact c ((List.getElem_inj hl).mp z)
  · rw [gj]
    intro z
    exact (List.nodup_append.mp h).2.2 _ (List.getElem_mem hj) _ (List.mem_singleton.mpr rfl) z
theorem ErrAt.kit {l : List Addr} {i j : Nat} (h : ErrAt K (l.getD i 0) W) (hD : ErrAt K (l.getD j 0) W) (hi : i < l.length) (hj : j < l.length) (nod : (l ++ [W]).Nodup) :
    PySem.W.kitOne K (.ref (l.getD i 0)) (.ref (l.getD j 0)) = some (decide (j = i)) := by
  obtain ⟨a, b⟩ := nod_ne nod hi hj
  rw [h.kitD hD b, a]
end
theorem ErrAt.exm {K : PySem.W.Frag} {C W : Addr} (h : ErrAt K C W) : PySem.W.exmOne K (.ref C) (.ref C) = some true := by
  have a : (PySem.W.subIn K (.ref C) (.type "BaseException") == some true) = true := by rw [h.sub]; simp
  unfold PySem.W.exmOne
  rw [if_pos a]
  unfold PySem.W.kitCls
  show (if _ then _ else _) = _
  rw [if_pos h.to.ok, h.sub]
  simp
theorem ErrAt.exmNo {K : PySem.W.Frag} {C D W : Addr} (h : ErrAt K C W) (hD : ErrAt K D W) (n1 : D ≠ C) (n2 : D ≠ W) : PySem.W.exmOne K (.ref C) (.ref D) = some false := by
  have a : (PySem.W.subIn K (.ref D) (.type "BaseException") == some true) = true := by rw [hD.sub]; simp
  unfold PySem.W.exmOne
  rw [if_pos a]
  unfold PySem.W.kitCls
  show (if _ then _ else _) = _
  rw [if_pos hD.to.ok, h.sub]
  simp [n1, n2]
theorem kitNo {K : PySem.W.Frag} {C : Addr} {t : Value} (h : ((PySem.W.clsIn K C).isSome && PySem.W.typeIn K (.ref C) == some (.type "type")) = true) (nf : PySem.W.notFirst K C t = true) (ne : (t == .ref C) = false) : PySem.W.kitOne K t (.ref C) = some false := by
  unfold PySem.W.notFirst at nf
  rw [ne, Bool.false_or] at nf
  unfold PySem.W.kitOne
  rw [if_neg (by rw [ne]; exact Bool.noConfusion)]
  unfold PySem.W.kitCls
  show (if _ then _ else _) = _
  rw [if_pos h]
  exact beq_iff_eq.mp nf
theorem exmAny2 {K : PySem.W.Frag} {c a b : Value} {p q : Bool} (h1 : PySem.W.exmOne K c a = some p) (h2 : PySem.W.exmOne K c b = some q) : PySem.W.exmAny K c [a, b] = some (p || q) := by
  unfold PySem.W.exmAny
  rw [h1]
  unfold PySem.W.exmAny
  rw [h2]
  unfold PySem.W.exmAny
  simp
set_option maxHeartbeats 4000000 in
theorem all_mk {l : PySem.W.OpenLaw} {w : World} {K : PySem.W.Frag} {h : Heap} {mg : Str → Option Value} {fa C_Wire C_WireError C_NoSize C_NoRing C_NoText f_l_cell f_l_row f_l_drawn f_l_of_kind f_l_size f_l_rings f_moves_of T_moves_of f_rings_of f_rings_text f_rings_in f_is_number f_with_integers f_Wire_init f_Wire_rings f_Wire_getitem f_Wire_str f_Wire_read f_NoSize_init f_NoRing_init f_NoText_init f_l_wire f_l_is_wire f_l_text f_l_sign f_l_spoilt f_l_number f_l_images_of f_l_read f_law : Addr} (X : K.In h) (G : h.Ns mainGlobals mg) (hfa : mg "law" = some (.ref fa))
    {nm_WireError qn_WireError : Str} {N_WireError : Addr} {bs_WireError : List Value} {sn_WireError : List Str} {sub_WireError : List Value} {ab_WireError : Bool} {col_WireError : Option Bool} {dd_WireError : Option Addr} {k0_WireError k1_WireError k2_WireError k3_WireError k5_WireError : Option Value}
    {nm_NoSize qn_NoSize : Str} {N_NoSize : Addr} {bs_NoSize : List Value} {sn_NoSize : List Str} {sub_NoSize : List Value} {ab_NoSize : Bool} {col_NoSize : Option Bool} {dd_NoSize : Option Addr} {k0_NoSize k1_NoSize k2_NoSize k3_NoSize k5_NoSize : Option Value}
    {nm_NoRing qn_NoRing : Str} {N_NoRing : Addr} {bs_NoRing : List Value} {sn_NoRing : List Str} {sub_NoRing : List Value} {ab_NoRing : Bool} {col_NoRing : Option Bool} {dd_NoRing : Option Addr} {k0_NoRing k1_NoRing k2_NoRing k3_NoRing k5_NoRing : Option Value}
    {nm_NoText qn_NoText : Str} {N_NoText : Addr} {bs_NoText : List Value} {sn_NoText : List Str} {sub_NoText : List Value} {ab_NoText : Bool} {col_NoText : Option Bool} {dd_NoText : Option Addr} {k0_NoText k1_NoText k2_NoText k3_NoText k5_NoText : Option Value}
    {tkM : Tok}
    {od_l_cell an_l_cell : Option Addr} {sl_l_cell : Array (Option Value)} {oc_l_cell kV_l_cell dc_l_cell pm_l_cell cd_l_cell ct_l_cell : Value}
    {od_l_row an_l_row : Option Addr} {sl_l_row : Array (Option Value)} {oc_l_row kV_l_row dc_l_row pm_l_row cd_l_row ct_l_row : Value}
    {od_l_drawn an_l_drawn : Option Addr} {sl_l_drawn : Array (Option Value)} {oc_l_drawn kV_l_drawn dc_l_drawn pm_l_drawn cd_l_drawn ct_l_drawn : Value}
    {od_l_of_kind an_l_of_kind : Option Addr} {sl_l_of_kind : Array (Option Value)} {oc_l_of_kind kV_l_of_kind dc_l_of_kind pm_l_of_kind cd_l_of_kind ct_l_of_kind : Value}
    {od_l_size an_l_size : Option Addr} {sl_l_size : Array (Option Value)} {oc_l_size kV_l_size dc_l_size pm_l_size cd_l_size ct_l_size : Value}
    {od_l_rings an_l_rings : Option Addr} {sl_l_rings : Array (Option Value)} {oc_l_rings kV_l_rings dc_l_rings pm_l_rings cd_l_rings ct_l_rings : Value}
    {od_moves_of an_moves_of : Option Addr} {sl_moves_of : Array (Option Value)} {oc_moves_of kV_moves_of dc_moves_of pm_moves_of cd_moves_of ct_moves_of : Value}
    {oT_moves_of : Value} {dT_moves_of : Option Addr} {nT_moves_of : Nat} {sT_moves_of : Array (Option Value)}
    {od_rings_of an_rings_of : Option Addr} {sl_rings_of : Array (Option Value)} {oc_rings_of kV_rings_of dc_rings_of pm_rings_of cd_rings_of ct_rings_of : Value}
    {od_rings_text an_rings_text : Option Addr} {sl_rings_text : Array (Option Value)} {oc_rings_text kV_rings_text dc_rings_text pm_rings_text cd_rings_text ct_rings_text : Value}
    {od_rings_in an_rings_in : Option Addr} {sl_rings_in : Array (Option Value)} {oc_rings_in kV_rings_in dc_rings_in pm_rings_in cd_rings_in ct_rings_in : Value}
    {od_is_number an_is_number : Option Addr} {sl_is_number : Array (Option Value)} {oc_is_number kV_is_number dc_is_number pm_is_number cd_is_number ct_is_number : Value}
    {od_with_integers an_with_integers : Option Addr} {sl_with_integers : Array (Option Value)} {oc_with_integers kV_with_integers dc_with_integers pm_with_integers cd_with_integers ct_with_integers : Value}
    {od_Wire_init an_Wire_init : Option Addr} {sl_Wire_init : Array (Option Value)} {oc_Wire_init kV_Wire_init dc_Wire_init pm_Wire_init cd_Wire_init ct_Wire_init : Value}
    {od_Wire_rings an_Wire_rings : Option Addr} {sl_Wire_rings : Array (Option Value)} {oc_Wire_rings kV_Wire_rings dc_Wire_rings pm_Wire_rings cd_Wire_rings ct_Wire_rings : Value}
    {od_Wire_getitem an_Wire_getitem : Option Addr} {sl_Wire_getitem : Array (Option Value)} {oc_Wire_getitem kV_Wire_getitem dc_Wire_getitem pm_Wire_getitem cd_Wire_getitem ct_Wire_getitem : Value}
    {od_Wire_str an_Wire_str : Option Addr} {sl_Wire_str : Array (Option Value)} {oc_Wire_str kV_Wire_str dc_Wire_str pm_Wire_str cd_Wire_str ct_Wire_str : Value}
    {od_Wire_read an_Wire_read : Option Addr} {sl_Wire_read : Array (Option Value)} {oc_Wire_read kV_Wire_read dc_Wire_read pm_Wire_read cd_Wire_read ct_Wire_read : Value}
    {mc_Wire_read : Value} {sp_Wire_read : Addr} {sr_Wire_read : List Value}
    {od_NoSize_init an_NoSize_init : Option Addr} {sl_NoSize_init : Array (Option Value)} {oc_NoSize_init kV_NoSize_init dc_NoSize_init pm_NoSize_init cd_NoSize_init ct_NoSize_init : Value}
    {od_NoRing_init an_NoRing_init : Option Addr} {sl_NoRing_init : Array (Option Value)} {oc_NoRing_init kV_NoRing_init dc_NoRing_init pm_NoRing_init cd_NoRing_init ct_NoRing_init : Value}
    {od_NoText_init an_NoText_init : Option Addr} {sl_NoText_init : Array (Option Value)} {oc_NoText_init kV_NoText_init dc_NoText_init pm_NoText_init cd_NoText_init ct_NoText_init : Value}
    {od_l_wire an_l_wire : Option Addr} {sl_l_wire : Array (Option Value)} {oc_l_wire kV_l_wire dc_l_wire pm_l_wire cd_l_wire ct_l_wire : Value}
    {od_l_is_wire an_l_is_wire : Option Addr} {sl_l_is_wire : Array (Option Value)} {oc_l_is_wire kV_l_is_wire dc_l_is_wire pm_l_is_wire cd_l_is_wire ct_l_is_wire : Value}
    {od_l_text an_l_text : Option Addr} {sl_l_text : Array (Option Value)} {oc_l_text kV_l_text dc_l_text pm_l_text cd_l_text ct_l_text : Value}
    {od_l_sign an_l_sign : Option Addr} {sl_l_sign : Array (Option Value)} {oc_l_sign kV_l_sign dc_l_sign pm_l_sign cd_l_sign ct_l_sign : Value}
    {od_l_spoilt an_l_spoilt : Option Addr} {sl_l_spoilt : Array (Option Value)} {oc_l_spoilt kV_l_spoilt dc_l_spoilt pm_l_spoilt cd_l_spoilt ct_l_spoilt : Value}
    {od_l_number an_l_number : Option Addr} {sl_l_number : Array (Option Value)} {oc_l_number kV_l_number dc_l_number pm_l_number cd_l_number ct_l_number : Value}
    {od_l_images_of an_l_images_of : Option Addr} {sl_l_images_of : Array (Option Value)} {oc_l_images_of kV_l_images_of dc_l_images_of pm_l_images_of cd_l_images_of ct_l_images_of : Value}
    {od_l_read an_l_read : Option Addr} {sl_l_read : Array (Option Value)} {oc_l_read kV_l_read dc_l_read pm_l_read cd_l_read ct_l_read : Value}
    {od_law an_law : Option Addr} {sl_law : Array (Option Value)} {oc_law kV_law dc_law pm_law cd_law ct_law : Value}
    (g_Wire : PySem.W.nsIn K mainGlobals "Wire" = some (some (.ref C_Wire)))
    (pg_Wire : PySem.W.plainGet K C_Wire Str.empty = true)
    (hd_Wire : PySem.W.hasDictIn K C_Wire = true)
    (po_Wire : PySem.W.plainOver K C_Wire = true)
    (sa_Wire : PySem.W.findIn K (.ref C_Wire) "__setattr__" = some (some (.builtin "object.__setattr__")))
    (mk_Wire : PySem.W.makesIn K C_Wire = true)
    (kc_Wire : PySem.W.keepIn K (.ref C_Wire) = true)
    (n_Wire_size : PySem.W.findIn K (.ref C_Wire) "size" = some none)
    (n_Wire__images : PySem.W.findIn K (.ref C_Wire) "_images" = some none)
    (g_WireError : PySem.W.nsIn K mainGlobals "WireError" = some (some (.ref C_WireError)))
    (g_NoSize : PySem.W.nsIn K mainGlobals "NoSize" = some (some (.ref C_NoSize)))
    (g_NoRing : PySem.W.nsIn K mainGlobals "NoRing" = some (some (.ref C_NoRing)))
    (g_NoText : PySem.W.nsIn K mainGlobals "NoText" = some (some (.ref C_NoText)))
    (x_WireError : K.lookup C_WireError = some (excClassObj nm_WireError qn_WireError C_WireError N_WireError bs_WireError [.type "ValueError", .type "Exception", .type "BaseException", .type "object"] true sn_WireError sub_WireError ab_WireError col_WireError dd_WireError k0_WireError k1_WireError k2_WireError k3_WireError k5_WireError "ValueError.__new__"))
    (x_NoSize : K.lookup C_NoSize = some (excClassObj nm_NoSize qn_NoSize C_NoSize N_NoSize bs_NoSize [.ref C_WireError, .type "ValueError", .type "Exception", .type "BaseException", .type "object"] true sn_NoSize sub_NoSize ab_NoSize col_NoSize dd_NoSize k0_NoSize k1_NoSize k2_NoSize k3_NoSize k5_NoSize "ValueError.__new__"))
    (kc_NoSize : PySem.W.keepIn K (.ref C_NoSize) = true)
    (sa_NoSize : PySem.W.findIn K (.ref C_NoSize) "__setattr__" = some (some (.builtin "object.__setattr__")))
    (ga_NoSize : PySem.W.findIn K (.ref C_NoSize) "__getattribute__" = some (some (.builtin "BaseException.__getattribute__")))
    (gg_NoSize : PySem.W.findIn K (.ref C_NoSize) "__getattr__" = some none)
    (cl_NoSize : PySem.W.findIn K (.ref C_NoSize) "__class__" = some (some (.builtin "object.__class__")))
    (no_NoSize : PySem.W.findIn K (.ref C_NoSize) "size" = some none)
    (x_NoRing : K.lookup C_NoRing = some (excClassObj nm_NoRing qn_NoRing C_NoRing N_NoRing bs_NoRing [.ref C_WireError, .type "ValueError", .type "Exception", .type "BaseException", .type "object"] true sn_NoRing sub_NoRing ab_NoRing col_NoRing dd_NoRing k0_NoRing k1_NoRing k2_NoRing k3_NoRing k5_NoRing "ValueError.__new__"))
    (kc_NoRing : PySem.W.keepIn K (.ref C_NoRing) = true)
    (sa_NoRing : PySem.W.findIn K (.ref C_NoRing) "__setattr__" = some (some (.builtin "object.__setattr__")))
    (ga_NoRing : PySem.W.findIn K (.ref C_NoRing) "__getattribute__" = some (some (.builtin "BaseException.__getattribute__")))
    (gg_NoRing : PySem.W.findIn K (.ref C_NoRing) "__getattr__" = some none)
    (cl_NoRing : PySem.W.findIn K (.ref C_NoRing) "__class__" = some (some (.builtin "object.__class__")))
    (no_NoRing : PySem.W.findIn K (.ref C_NoRing) "index" = some none)
    (x_NoText : K.lookup C_NoText = some (excClassObj nm_NoText qn_NoText C_NoText N_NoText bs_NoText [.ref C_WireError, .type "ValueError", .type "Exception", .type "BaseException", .type "object"] true sn_NoText sub_NoText ab_NoText col_NoText dd_NoText k0_NoText k1_NoText k2_NoText k3_NoText k5_NoText "ValueError.__new__"))
    (kc_NoText : PySem.W.keepIn K (.ref C_NoText) = true)
    (sa_NoText : PySem.W.findIn K (.ref C_NoText) "__setattr__" = some (some (.builtin "object.__setattr__")))
    (ga_NoText : PySem.W.findIn K (.ref C_NoText) "__getattribute__" = some (some (.builtin "BaseException.__getattribute__")))
    (gg_NoText : PySem.W.findIn K (.ref C_NoText) "__getattr__" = some none)
    (cl_NoText : PySem.W.findIn K (.ref C_NoText) "__class__" = some (some (.builtin "object.__class__")))
    (no_NoText : PySem.W.findIn K (.ref C_NoText) "text" = some none)
    (clw : PySem.W.findIn K (.ref C_Wire) "__class__" = some (some (.builtin "object.__class__")))
    (hget : PySem.W.specialIn K (.builtin "object.__class__") "__get__" = some (some (.builtin "getset_descriptor.__get__")))
    (htk : PySem.W.takesIn K (.builtin "object.__class__") = some true)
    (hmw : PySem.W.mroIn K C_Wire (.type "object") = some true)
    (ne1 : C_NoSize ≠ C_NoRing)
    (ne2 : C_NoSize ≠ C_WireError)
    (ne3 : C_NoRing ≠ C_WireError)
    (z_len : PySem.W.nsIn K mainGlobals "len" = some none)
    (z_range : PySem.W.nsIn K mainGlobals "range" = some none)
    (z_int : PySem.W.nsIn K mainGlobals "int" = some none)
    (z_list : PySem.W.nsIn K mainGlobals "list" = some none)
    (z_enumerate : PySem.W.nsIn K mainGlobals "enumerate" = some none)
    (z_dict : PySem.W.nsIn K mainGlobals "dict" = some none)
    (z_zip : PySem.W.nsIn K mainGlobals "zip" = some none)
    (z_set : PySem.W.nsIn K mainGlobals "set" = some none)
    (z_sorted : PySem.W.nsIn K mainGlobals "sorted" = some none)
    (z_all : PySem.W.nsIn K mainGlobals "all" = some none)
    (z_abs : PySem.W.nsIn K mainGlobals "abs" = some none)
    (z_isinstance : PySem.W.nsIn K mainGlobals "isinstance" = some none)
    (z_bool : PySem.W.nsIn K mainGlobals "bool" = some none)
    (z_str : PySem.W.nsIn K mainGlobals "str" = some none)
    (z_any : PySem.W.nsIn K mainGlobals "any" = some none)
    (v_MOST_DIGITS : PySem.W.nsIn K mainGlobals "MOST_DIGITS" = some (some (.int 18 tkM)))
    (a_l_cell : PySem.W.nsIn K mainGlobals "_law_cell" = some (some (.ref f_l_cell)))
    (l_l_cell : K.lookup f_l_cell = some ⟨oc_l_cell, od_l_cell, .func (PySem.W.fnOf "_law_cell" "_law_cell" (defArgs s_l_cell) (defBody s_l_cell) (defScope s_l_cell) .none kV_l_cell dc_l_cell pm_l_cell an_l_cell cd_l_cell ct_l_cell), sl_l_cell⟩)
    (c_l_cell : PySem.W.codeIn K cd_l_cell "_law_cell" = true)
    (k_l_cell : PySem.W.keepIn K (.ref f_l_cell) = true)
    (a_l_row : PySem.W.nsIn K mainGlobals "_law_row" = some (some (.ref f_l_row)))
    (l_l_row : K.lookup f_l_row = some ⟨oc_l_row, od_l_row, .func (PySem.W.fnOf "_law_row" "_law_row" (defArgs s_l_row) (defBody s_l_row) (defScope s_l_row) .none kV_l_row dc_l_row pm_l_row an_l_row cd_l_row ct_l_row), sl_l_row⟩)
    (c_l_row : PySem.W.codeIn K cd_l_row "_law_row" = true)
    (k_l_row : PySem.W.keepIn K (.ref f_l_row) = true)
    (a_l_drawn : PySem.W.nsIn K mainGlobals "_law_drawn" = some (some (.ref f_l_drawn)))
    (l_l_drawn : K.lookup f_l_drawn = some ⟨oc_l_drawn, od_l_drawn, .func (PySem.W.fnOf "_law_drawn" "_law_drawn" (defArgs s_l_drawn) (defBody s_l_drawn) (defScope s_l_drawn) .none kV_l_drawn dc_l_drawn pm_l_drawn an_l_drawn cd_l_drawn ct_l_drawn), sl_l_drawn⟩)
    (c_l_drawn : PySem.W.codeIn K cd_l_drawn "_law_drawn" = true)
    (k_l_drawn : PySem.W.keepIn K (.ref f_l_drawn) = true)
    (a_l_of_kind : PySem.W.nsIn K mainGlobals "_law_of_kind" = some (some (.ref f_l_of_kind)))
    (l_l_of_kind : K.lookup f_l_of_kind = some ⟨oc_l_of_kind, od_l_of_kind, .func (PySem.W.fnOf "_law_of_kind" "_law_of_kind" (defArgs s_l_of_kind) (defBody s_l_of_kind) (defScope s_l_of_kind) .none kV_l_of_kind dc_l_of_kind pm_l_of_kind an_l_of_kind cd_l_of_kind ct_l_of_kind), sl_l_of_kind⟩)
    (c_l_of_kind : PySem.W.codeIn K cd_l_of_kind "_law_of_kind" = true)
    (k_l_of_kind : PySem.W.keepIn K (.ref f_l_of_kind) = true)
    (a_l_size : PySem.W.nsIn K mainGlobals "_law_size" = some (some (.ref f_l_size)))
    (l_l_size : K.lookup f_l_size = some ⟨oc_l_size, od_l_size, .func (PySem.W.fnOf "_law_size" "_law_size" (defArgs s_l_size) (defBody s_l_size) (defScope s_l_size) .none kV_l_size dc_l_size pm_l_size an_l_size cd_l_size ct_l_size), sl_l_size⟩)
    (c_l_size : PySem.W.codeIn K cd_l_size "_law_size" = true)
    (k_l_size : PySem.W.keepIn K (.ref f_l_size) = true)
    (a_l_rings : PySem.W.nsIn K mainGlobals "_law_rings" = some (some (.ref f_l_rings)))
    (l_l_rings : K.lookup f_l_rings = some ⟨oc_l_rings, od_l_rings, .func (PySem.W.fnOf "_law_rings" "_law_rings" (defArgs s_l_rings) (defBody s_l_rings) (defScope s_l_rings) .none kV_l_rings dc_l_rings pm_l_rings an_l_rings cd_l_rings ct_l_rings), sl_l_rings⟩)
    (c_l_rings : PySem.W.codeIn K cd_l_rings "_law_rings" = true)
    (k_l_rings : PySem.W.keepIn K (.ref f_l_rings) = true)
    (a_moves_of : PySem.W.nsIn K mainGlobals "moves_of" = some (some (.ref f_moves_of)))
    (l_moves_of : K.lookup f_moves_of = some ⟨oc_moves_of, od_moves_of, .func (PySem.W.fnOf "moves_of" "moves_of" (defArgs s_moves_of) (defBody s_moves_of) (defScope s_moves_of) (.ref T_moves_of) kV_moves_of dc_moves_of pm_moves_of an_moves_of cd_moves_of ct_moves_of), sl_moves_of⟩)
    (lT_moves_of : K.lookup T_moves_of = some ⟨oT_moves_of, dT_moves_of, .seq #[.none] nT_moves_of, sT_moves_of⟩)
    (c_moves_of : PySem.W.codeIn K cd_moves_of "moves_of" = true)
    (k_moves_of : PySem.W.keepIn K (.ref f_moves_of) = true)
    (a_rings_of : PySem.W.nsIn K mainGlobals "rings_of" = some (some (.ref f_rings_of)))
    (l_rings_of : K.lookup f_rings_of = some ⟨oc_rings_of, od_rings_of, .func (PySem.W.fnOf "rings_of" "rings_of" (defArgs s_rings_of) (defBody s_rings_of) (defScope s_rings_of) .none kV_rings_of dc_rings_of pm_rings_of an_rings_of cd_rings_of ct_rings_of), sl_rings_of⟩)
    (c_rings_of : PySem.W.codeIn K cd_rings_of "rings_of" = true)
    (k_rings_of : PySem.W.keepIn K (.ref f_rings_of) = true)
    (a_rings_text : PySem.W.nsIn K mainGlobals "rings_text" = some (some (.ref f_rings_text)))
    (l_rings_text : K.lookup f_rings_text = some ⟨oc_rings_text, od_rings_text, .func (PySem.W.fnOf "rings_text" "rings_text" (defArgs s_rings_text) (defBody s_rings_text) (defScope s_rings_text) .none kV_rings_text dc_rings_text pm_rings_text an_rings_text cd_rings_text ct_rings_text), sl_rings_text⟩)
    (c_rings_text : PySem.W.codeIn K cd_rings_text "rings_text" = true)
    (k_rings_text : PySem.W.keepIn K (.ref f_rings_text) = true)
    (a_rings_in : PySem.W.nsIn K mainGlobals "rings_in" = some (some (.ref f_rings_in)))
    (l_rings_in : K.lookup f_rings_in = some ⟨oc_rings_in, od_rings_in, .func (PySem.W.fnOf "rings_in" "rings_in" (defArgs s_rings_in) (defBody s_rings_in) (defScope s_rings_in) .none kV_rings_in dc_rings_in pm_rings_in an_rings_in cd_rings_in ct_rings_in), sl_rings_in⟩)
    (c_rings_in : PySem.W.codeIn K cd_rings_in "rings_in" = true)
    (k_rings_in : PySem.W.keepIn K (.ref f_rings_in) = true)
    (a_is_number : PySem.W.nsIn K mainGlobals "is_number" = some (some (.ref f_is_number)))
    (l_is_number : K.lookup f_is_number = some ⟨oc_is_number, od_is_number, .func (PySem.W.fnOf "is_number" "is_number" (defArgs s_is_number) (defBody s_is_number) (defScope s_is_number) .none kV_is_number dc_is_number pm_is_number an_is_number cd_is_number ct_is_number), sl_is_number⟩)
    (c_is_number : PySem.W.codeIn K cd_is_number "is_number" = true)
    (k_is_number : PySem.W.keepIn K (.ref f_is_number) = true)
    (a_with_integers : PySem.W.nsIn K mainGlobals "with_integers" = some (some (.ref f_with_integers)))
    (l_with_integers : K.lookup f_with_integers = some ⟨oc_with_integers, od_with_integers, .func (PySem.W.fnOf "with_integers" "with_integers" (defArgs s_with_integers) (defBody s_with_integers) (defScope s_with_integers) .none kV_with_integers dc_with_integers pm_with_integers an_with_integers cd_with_integers ct_with_integers), sl_with_integers⟩)
    (c_with_integers : PySem.W.codeIn K cd_with_integers "with_integers" = true)
    (k_with_integers : PySem.W.keepIn K (.ref f_with_integers) = true)
    (a_Wire_init : PySem.W.findIn K (.ref C_Wire) "__init__" = some (some (.ref f_Wire_init)))
    (i_Wire_init : PySem.W.isFn K (.ref f_Wire_init) = true)
    (l_Wire_init : K.lookup f_Wire_init = some ⟨oc_Wire_init, od_Wire_init, .func (PySem.W.fnOf "__init__" "Wire.__init__" (defArgs s_Wire_init) (defBody s_Wire_init) (defScope s_Wire_init) .none kV_Wire_init dc_Wire_init pm_Wire_init an_Wire_init cd_Wire_init ct_Wire_init), sl_Wire_init⟩)
    (c_Wire_init : PySem.W.codeIn K cd_Wire_init "Wire.__init__" = true)
    (k_Wire_init : PySem.W.keepIn K (.ref f_Wire_init) = true)
    (a_Wire_rings : PySem.W.findIn K (.ref C_Wire) "rings" = some (some (.ref f_Wire_rings)))
    (i_Wire_rings : PySem.W.isFn K (.ref f_Wire_rings) = true)
    (l_Wire_rings : K.lookup f_Wire_rings = some ⟨oc_Wire_rings, od_Wire_rings, .func (PySem.W.fnOf "rings" "Wire.rings" (defArgs s_Wire_rings) (defBody s_Wire_rings) (defScope s_Wire_rings) .none kV_Wire_rings dc_Wire_rings pm_Wire_rings an_Wire_rings cd_Wire_rings ct_Wire_rings), sl_Wire_rings⟩)
    (c_Wire_rings : PySem.W.codeIn K cd_Wire_rings "Wire.rings" = true)
    (k_Wire_rings : PySem.W.keepIn K (.ref f_Wire_rings) = true)
    (a_Wire_getitem : PySem.W.findIn K (.ref C_Wire) "__getitem__" = some (some (.ref f_Wire_getitem)))
    (i_Wire_getitem : PySem.W.isFn K (.ref f_Wire_getitem) = true)
    (l_Wire_getitem : K.lookup f_Wire_getitem = some ⟨oc_Wire_getitem, od_Wire_getitem, .func (PySem.W.fnOf "__getitem__" "Wire.__getitem__" (defArgs s_Wire_getitem) (defBody s_Wire_getitem) (defScope s_Wire_getitem) .none kV_Wire_getitem dc_Wire_getitem pm_Wire_getitem an_Wire_getitem cd_Wire_getitem ct_Wire_getitem), sl_Wire_getitem⟩)
    (c_Wire_getitem : PySem.W.codeIn K cd_Wire_getitem "Wire.__getitem__" = true)
    (k_Wire_getitem : PySem.W.keepIn K (.ref f_Wire_getitem) = true)
    (a_Wire_str : PySem.W.findIn K (.ref C_Wire) "__str__" = some (some (.ref f_Wire_str)))
    (i_Wire_str : PySem.W.isFn K (.ref f_Wire_str) = true)
    (l_Wire_str : K.lookup f_Wire_str = some ⟨oc_Wire_str, od_Wire_str, .func (PySem.W.fnOf "__str__" "Wire.__str__" (defArgs s_Wire_str) (defBody s_Wire_str) (defScope s_Wire_str) .none kV_Wire_str dc_Wire_str pm_Wire_str an_Wire_str cd_Wire_str ct_Wire_str), sl_Wire_str⟩)
    (c_Wire_str : PySem.W.codeIn K cd_Wire_str "Wire.__str__" = true)
    (k_Wire_str : PySem.W.keepIn K (.ref f_Wire_str) = true)
    (st_Wire_read : PySem.W.typeIn K (.ref C_Wire) = some mc_Wire_read)
    (sd_Wire_read : PySem.W.readsIn K C_Wire mc_Wire_read = true)
    (sg_Wire_read : PySem.W.specialIn K (.ref C_Wire) "__getattribute__" = some (some (.builtin "type.__getattribute__")))
    (sf_Wire_read : PySem.W.findCls K (.ref C_Wire) mc_Wire_read "read" = some (.get (.builtin "staticmethod.__get__") (.ref sp_Wire_read) .none (.ref C_Wire)))
    (sc_Wire_read : PySem.W.recIn K sp_Wire_read "staticmethod" = some (.ref f_Wire_read :: sr_Wire_read))
    (l_Wire_read : K.lookup f_Wire_read = some ⟨oc_Wire_read, od_Wire_read, .func (PySem.W.fnOf "read" "Wire.read" (defArgs s_Wire_read) (defBody s_Wire_read) (defScope s_Wire_read) .none kV_Wire_read dc_Wire_read pm_Wire_read an_Wire_read cd_Wire_read ct_Wire_read), sl_Wire_read⟩)
    (c_Wire_read : PySem.W.codeIn K cd_Wire_read "Wire.read" = true)
    (k_Wire_read : PySem.W.keepIn K (.ref f_Wire_read) = true)
    (a_NoSize_init : PySem.W.findIn K (.ref C_NoSize) "__init__" = some (some (.ref f_NoSize_init)))
    (i_NoSize_init : PySem.W.typeIn K (.ref f_NoSize_init) = some (.type "function"))
    (l_NoSize_init : K.lookup f_NoSize_init = some ⟨oc_NoSize_init, od_NoSize_init, .func (PySem.W.fnOf "__init__" "NoSize.__init__" (defArgs s_NoSize_init) (defBody s_NoSize_init) (defScope s_NoSize_init) .none kV_NoSize_init dc_NoSize_init pm_NoSize_init an_NoSize_init cd_NoSize_init ct_NoSize_init), sl_NoSize_init⟩)
    (c_NoSize_init : PySem.W.codeIn K cd_NoSize_init "NoSize.__init__" = true)
    (k_NoSize_init : PySem.W.keepIn K (.ref f_NoSize_init) = true)
    (a_NoRing_init : PySem.W.findIn K (.ref C_NoRing) "__init__" = some (some (.ref f_NoRing_init)))
    (i_NoRing_init : PySem.W.typeIn K (.ref f_NoRing_init) = some (.type "function"))
    (l_NoRing_init : K.lookup f_NoRing_init = some ⟨oc_NoRing_init, od_NoRing_init, .func (PySem.W.fnOf "__init__" "NoRing.__init__" (defArgs s_NoRing_init) (defBody s_NoRing_init) (defScope s_NoRing_init) .none kV_NoRing_init dc_NoRing_init pm_NoRing_init an_NoRing_init cd_NoRing_init ct_NoRing_init), sl_NoRing_init⟩)
    (c_NoRing_init : PySem.W.codeIn K cd_NoRing_init "NoRing.__init__" = true)
    (k_NoRing_init : PySem.W.keepIn K (.ref f_NoRing_init) = true)
    (a_NoText_init : PySem.W.findIn K (.ref C_NoText) "__init__" = some (some (.ref f_NoText_init)))
    (i_NoText_init : PySem.W.typeIn K (.ref f_NoText_init) = some (.type "function"))
    (l_NoText_init : K.lookup f_NoText_init = some ⟨oc_NoText_init, od_NoText_init, .func (PySem.W.fnOf "__init__" "NoText.__init__" (defArgs s_NoText_init) (defBody s_NoText_init) (defScope s_NoText_init) .none kV_NoText_init dc_NoText_init pm_NoText_init an_NoText_init cd_NoText_init ct_NoText_init), sl_NoText_init⟩)
    (c_NoText_init : PySem.W.codeIn K cd_NoText_init "NoText.__init__" = true)
    (k_NoText_init : PySem.W.keepIn K (.ref f_NoText_init) = true)
    (a_l_wire : PySem.W.nsIn K mainGlobals "_law_wire" = some (some (.ref f_l_wire)))
    (l_l_wire : K.lookup f_l_wire = some ⟨oc_l_wire, od_l_wire, .func (PySem.W.fnOf "_law_wire" "_law_wire" (defArgs s_l_wire) (defBody s_l_wire) (defScope s_l_wire) .none kV_l_wire dc_l_wire pm_l_wire an_l_wire cd_l_wire ct_l_wire), sl_l_wire⟩)
    (c_l_wire : PySem.W.codeIn K cd_l_wire "_law_wire" = true)
    (k_l_wire : PySem.W.keepIn K (.ref f_l_wire) = true)
    (a_l_is_wire : PySem.W.nsIn K mainGlobals "_law_is_wire" = some (some (.ref f_l_is_wire)))
    (l_l_is_wire : K.lookup f_l_is_wire = some ⟨oc_l_is_wire, od_l_is_wire, .func (PySem.W.fnOf "_law_is_wire" "_law_is_wire" (defArgs s_l_is_wire) (defBody s_l_is_wire) (defScope s_l_is_wire) .none kV_l_is_wire dc_l_is_wire pm_l_is_wire an_l_is_wire cd_l_is_wire ct_l_is_wire), sl_l_is_wire⟩)
    (c_l_is_wire : PySem.W.codeIn K cd_l_is_wire "_law_is_wire" = true)
    (k_l_is_wire : PySem.W.keepIn K (.ref f_l_is_wire) = true)
    (a_l_text : PySem.W.nsIn K mainGlobals "_law_text" = some (some (.ref f_l_text)))
    (l_l_text : K.lookup f_l_text = some ⟨oc_l_text, od_l_text, .func (PySem.W.fnOf "_law_text" "_law_text" (defArgs s_l_text) (defBody s_l_text) (defScope s_l_text) .none kV_l_text dc_l_text pm_l_text an_l_text cd_l_text ct_l_text), sl_l_text⟩)
    (c_l_text : PySem.W.codeIn K cd_l_text "_law_text" = true)
    (k_l_text : PySem.W.keepIn K (.ref f_l_text) = true)
    (a_l_sign : PySem.W.nsIn K mainGlobals "_law_sign" = some (some (.ref f_l_sign)))
    (l_l_sign : K.lookup f_l_sign = some ⟨oc_l_sign, od_l_sign, .func (PySem.W.fnOf "_law_sign" "_law_sign" (defArgs s_l_sign) (defBody s_l_sign) (defScope s_l_sign) .none kV_l_sign dc_l_sign pm_l_sign an_l_sign cd_l_sign ct_l_sign), sl_l_sign⟩)
    (c_l_sign : PySem.W.codeIn K cd_l_sign "_law_sign" = true)
    (k_l_sign : PySem.W.keepIn K (.ref f_l_sign) = true)
    (a_l_spoilt : PySem.W.nsIn K mainGlobals "_law_spoilt" = some (some (.ref f_l_spoilt)))
    (l_l_spoilt : K.lookup f_l_spoilt = some ⟨oc_l_spoilt, od_l_spoilt, .func (PySem.W.fnOf "_law_spoilt" "_law_spoilt" (defArgs s_l_spoilt) (defBody s_l_spoilt) (defScope s_l_spoilt) .none kV_l_spoilt dc_l_spoilt pm_l_spoilt an_l_spoilt cd_l_spoilt ct_l_spoilt), sl_l_spoilt⟩)
    (c_l_spoilt : PySem.W.codeIn K cd_l_spoilt "_law_spoilt" = true)
    (k_l_spoilt : PySem.W.keepIn K (.ref f_l_spoilt) = true)
    (a_l_number : PySem.W.nsIn K mainGlobals "_law_number" = some (some (.ref f_l_number)))
    (l_l_number : K.lookup f_l_number = some ⟨oc_l_number, od_l_number, .func (PySem.W.fnOf "_law_number" "_law_number" (defArgs s_l_number) (defBody s_l_number) (defScope s_l_number) .none kV_l_number dc_l_number pm_l_number an_l_number cd_l_number ct_l_number), sl_l_number⟩)
    (c_l_number : PySem.W.codeIn K cd_l_number "_law_number" = true)
    (k_l_number : PySem.W.keepIn K (.ref f_l_number) = true)
    (a_l_images_of : PySem.W.nsIn K mainGlobals "_law_images_of" = some (some (.ref f_l_images_of)))
    (l_l_images_of : K.lookup f_l_images_of = some ⟨oc_l_images_of, od_l_images_of, .func (PySem.W.fnOf "_law_images_of" "_law_images_of" (defArgs s_l_images_of) (defBody s_l_images_of) (defScope s_l_images_of) .none kV_l_images_of dc_l_images_of pm_l_images_of an_l_images_of cd_l_images_of ct_l_images_of), sl_l_images_of⟩)
    (c_l_images_of : PySem.W.codeIn K cd_l_images_of "_law_images_of" = true)
    (k_l_images_of : PySem.W.keepIn K (.ref f_l_images_of) = true)
    (a_l_read : PySem.W.nsIn K mainGlobals "_law_read" = some (some (.ref f_l_read)))
    (l_l_read : K.lookup f_l_read = some ⟨oc_l_read, od_l_read, .func (PySem.W.fnOf "_law_read" "_law_read" (defArgs s_l_read) (defBody s_l_read) (defScope s_l_read) .none kV_l_read dc_l_read pm_l_read an_l_read cd_l_read ct_l_read), sl_l_read⟩)
    (c_l_read : PySem.W.codeIn K cd_l_read "_law_read" = true)
    (k_l_read : PySem.W.keepIn K (.ref f_l_read) = true)
    (a_law : PySem.W.nsIn K mainGlobals "law" = some (some (.ref f_law)))
    (l_law : K.lookup f_law = some ⟨oc_law, od_law, .func (PySem.W.fnOf "law" "law" (defArgs s_law) (defBody s_law) (defScope s_law) .none kV_law dc_law pm_law an_law cd_law ct_law), sl_law⟩)
    (c_law : PySem.W.codeIn K cd_law "law" = true)
    (k_law : PySem.W.keepIn K (.ref f_law) = true)
    (fnget : PySem.W.fnIn K f_Wire_getitem = true)
    : ∃ fd : FuncData, (∀ (s : Shared) (v : Value), BindsTo s fd ⟨[v], []⟩ [("_law_script", v)]) ∧ ∀ base : Heap, K.In base → base.Ns mainGlobals mg → FnOk l.prog w K mg base CX0 8 fa fd ["_law_script"] (spLaw K) := by
  have e := hfa.symm.trans (PySem.W.mg_of X G a_law)
  cases e
  have F_l_cell := fun_mk (st := s_l_cell) l_l_cell c_l_cell k_l_cell
  have b_l_cell := F_l_cell.binds (ps := ["_law_script", "_law_k"]) fun _ _ _ _ _ _ us hl => match us, hl with | [_, _], _ => rfl
  have F_l_row := fun_mk (st := s_l_row) l_l_row c_l_row k_l_row
  have b_l_row := F_l_row.binds (ps := ["_law_cell_here", "_law_sizes"]) fun _ _ _ _ _ _ us hl => match us, hl with | [_, _], _ => rfl
  have F_l_drawn := fun_mk (st := s_l_drawn) l_l_drawn c_l_drawn k_l_drawn
  have b_l_drawn := F_l_drawn.binds (ps := ["_law_cell_here", "_law_n"]) fun _ _ _ _ _ _ us hl => match us, hl with | [_, _], _ => rfl
  have F_l_of_kind := fun_mk (st := s_l_of_kind) l_l_of_kind c_l_of_kind k_l_of_kind
  have b_l_of_kind := F_l_of_kind.binds (ps := ["_law_kind", "_law_bound", "_law_cell_here", "_law_n", "_law_draw"]) fun _ _ _ _ _ _ us hl => match us, hl with | [_, _, _, _, _], _ => rfl
  have F_l_size := fun_mk (st := s_l_size) l_l_size c_l_size k_l_size
  have b_l_size := F_l_size.binds (ps := ["_law_draw"]) fun _ _ _ _ _ _ us hl => match us, hl with | [_], _ => rfl
  have F_l_rings := fun_mk (st := s_l_rings) l_l_rings c_l_rings k_l_rings
  have b_l_rings := F_l_rings.binds (ps := ["_law_images"]) fun _ _ _ _ _ _ us hl => match us, hl with | [_], _ => rfl
  have F_moves_of : FunD K "moves_of" "moves_of" (defArgs s_moves_of) (defBody s_moves_of) (defScope s_moves_of) [.non] [] f_moves_of _ := ⟨⟨_, _, _, _, _, _, _, _, _, _, rfl, l_moves_of, c_moves_of, .inr ⟨by simp, _, _, [.none], _, rfl, lT_moves_of, rfl, .cons rfl .nil⟩, .inl rfl⟩, k_moves_of⟩
  obtain ⟨ds_moves_of, vd_moves_of, b_moves_of⟩ := F_moves_of.binds1 (ps := ["rings", "size"]) 2 1 (by simp) rfl fun _ _ _ _ _ _ _ us its h1 h2 => match us, its, h1, h2 with | [_, _], [_], _, _ => ⟨_, rfl, rfl⟩
  have F_rings_of := fun_mk (st := s_rings_of) l_rings_of c_rings_of k_rings_of
  have b_rings_of := F_rings_of.binds (ps := ["moves"]) fun _ _ _ _ _ _ us hl => match us, hl with | [_], _ => rfl
  have F_rings_text := fun_mk (st := s_rings_text) l_rings_text c_rings_text k_rings_text
  have b_rings_text := F_rings_text.binds (ps := ["rings"]) fun _ _ _ _ _ _ us hl => match us, hl with | [_], _ => rfl
  have F_rings_in := fun_mk (st := s_rings_in) l_rings_in c_rings_in k_rings_in
  have b_rings_in := F_rings_in.binds (ps := ["text"]) fun _ _ _ _ _ _ us hl => match us, hl with | [_], _ => rfl
  have F_is_number := fun_mk (st := s_is_number) l_is_number c_is_number k_is_number
  have b_is_number := F_is_number.binds (ps := ["text"]) fun _ _ _ _ _ _ us hl => match us, hl with | [_], _ => rfl
  have F_with_integers := fun_mk (st := s_with_integers) l_with_integers c_with_integers k_with_integers
  have b_with_integers := F_with_integers.binds (ps := ["rings"]) fun _ _ _ _ _ _ us hl => match us, hl with | [_], _ => rfl
  have F_Wire_init := fun_mk (st := s_Wire_init) l_Wire_init c_Wire_init k_Wire_init
  have b_Wire_init := F_Wire_init.binds (ps := ["self", "size", "rings"]) fun _ _ _ _ _ _ us hl => match us, hl with | [_, _, _], _ => rfl
  have F_Wire_rings := fun_mk (st := s_Wire_rings) l_Wire_rings c_Wire_rings k_Wire_rings
  have b_Wire_rings := F_Wire_rings.binds (ps := ["self"]) fun _ _ _ _ _ _ us hl => match us, hl with | [_], _ => rfl
  have F_Wire_getitem := fun_mk (st := s_Wire_getitem) l_Wire_getitem c_Wire_getitem k_Wire_getitem
  have b_Wire_getitem := F_Wire_getitem.binds (ps := ["self", "at"]) fun _ _ _ _ _ _ us hl => match us, hl with | [_, _], _ => rfl
  have F_Wire_str := fun_mk (st := s_Wire_str) l_Wire_str c_Wire_str k_Wire_str
  have b_Wire_str := F_Wire_str.binds (ps := ["self"]) fun _ _ _ _ _ _ us hl => match us, hl with | [_], _ => rfl
  have F_Wire_read := fun_mk (st := s_Wire_read) l_Wire_read c_Wire_read k_Wire_read
  have b_Wire_read := F_Wire_read.binds (ps := ["text"]) fun _ _ _ _ _ _ us hl => match us, hl with | [_], _ => rfl
  have F_NoSize_init := fun_mk (st := s_NoSize_init) l_NoSize_init c_NoSize_init k_NoSize_init
  have b_NoSize_init := F_NoSize_init.binds (ps := ["self", "size"]) fun _ _ _ _ _ _ us hl => match us, hl with | [_, _], _ => rfl
  have F_NoRing_init := fun_mk (st := s_NoRing_init) l_NoRing_init c_NoRing_init k_NoRing_init
  have b_NoRing_init := F_NoRing_init.binds (ps := ["self", "index"]) fun _ _ _ _ _ _ us hl => match us, hl with | [_, _], _ => rfl
  have F_NoText_init := fun_mk (st := s_NoText_init) l_NoText_init c_NoText_init k_NoText_init
  have b_NoText_init := F_NoText_init.binds (ps := ["self", "text"]) fun _ _ _ _ _ _ us hl => match us, hl with | [_, _], _ => rfl
  have F_l_wire := fun_mk (st := s_l_wire) l_l_wire c_l_wire k_l_wire
  have b_l_wire := F_l_wire.binds (ps := ["_law_images"]) fun _ _ _ _ _ _ us hl => match us, hl with | [_], _ => rfl
  have F_l_is_wire := fun_mk (st := s_l_is_wire) l_l_is_wire c_l_is_wire k_l_is_wire
  have b_l_is_wire := F_l_is_wire.binds (ps := ["_law_wire_here", "_law_images"]) fun _ _ _ _ _ _ us hl => match us, hl with | [_, _], _ => rfl
  have F_l_text := fun_mk (st := s_l_text) l_l_text c_l_text k_l_text
  have b_l_text := F_l_text.binds (ps := ["_law_rings_here"]) fun _ _ _ _ _ _ us hl => match us, hl with | [_], _ => rfl
  have F_l_sign := fun_mk (st := s_l_sign) l_l_sign c_l_sign k_l_sign
  have b_l_sign := F_l_sign.binds (ps := ["_law_k"]) fun _ _ _ _ _ _ us hl => match us, hl with | [_], _ => rfl
  have F_l_spoilt := fun_mk (st := s_l_spoilt) l_l_spoilt c_l_spoilt k_l_spoilt
  have b_l_spoilt := F_l_spoilt.binds (ps := ["_law_text_here", "_law_kind", "_law_place", "_law_k"]) fun _ _ _ _ _ _ us hl => match us, hl with | [_, _, _, _], _ => rfl
  have F_l_number := fun_mk (st := s_l_number) l_l_number c_l_number k_l_number
  have b_l_number := F_l_number.binds (ps := ["_law_text_here"]) fun _ _ _ _ _ _ us hl => match us, hl with | [_], _ => rfl
  have F_l_images_of := fun_mk (st := s_l_images_of) l_l_images_of c_l_images_of k_l_images_of
  have b_l_images_of := F_l_images_of.binds (ps := ["_law_text_here"]) fun _ _ _ _ _ _ us hl => match us, hl with | [_], _ => rfl
  have F_l_read := fun_mk (st := s_l_read) l_l_read c_l_read k_l_read
  have b_l_read := F_l_read.binds (ps := ["_law_text_here"]) fun _ _ _ _ _ _ us hl => match us, hl with | [_], _ => rfl
  have F_law := fun_mk (st := s_law) l_law c_law k_law
  refine ⟨PySem.W.fnOf "law" "law" (defArgs s_law) (defBody s_law) (defScope s_law) .none kV_law dc_law pm_law an_law cd_law ct_law, fun s v => .of_eq rfl, fun base hb1 hb2 => ?_⟩
  have N := fun {x : Str} (z : PySem.W.nsIn K mainGlobals x = some none) => PySem.W.mg_none_of X G z
  have B : Blt mg := ⟨N z_len, N z_range, N z_int, N z_list, N z_enumerate, N z_dict, N z_zip, N z_set, N z_sorted, N z_all, N z_abs, N z_isinstance, N z_bool⟩
  have cl : Cls K C_Wire := ⟨pg_Wire, hd_Wire, po_Wire, sa_Wire⟩
  have W : WTxt K C_Wire := ⟨cl, n_Wire_size, n_Wire__images⟩
  have T : BltC K mg C_Wire := { toBlt := B, cl := cl }
  have g_W := PySem.W.mg_of X G g_Wire
  have TT : WTop K mg C_Wire := { toBltC := T, g_Wire := g_W, cla := clw, hget := hget, htk := htk, hmro := hmw }
  have hfn : ∀ f, PySem.W.findIn K (.ref C_Wire) "__getitem__" = some (some (.ref f)) → PySem.W.fnIn K f = true := fun f e => by
    have z := a_Wire_getitem.symm.trans e
    cases z
    exact fnget
  have X_NS : ErrAt K C_NoSize C_WireError := ⟨_, _, _, _, _, _, _, _, _, _, _, _, _, _, x_NoSize⟩
  have X_NR : ErrAt K C_NoRing C_WireError := ⟨_, _, _, _, _, _, _, _, _, _, _, _, _, _, x_NoRing⟩
  have X_NT : ErrAt K C_NoText C_WireError := ⟨_, _, _, _, _, _, _, _, _, _, _, _, _, _, x_NoText⟩
  have E_NS : ErrC K C_NoSize := X_NS.errC sa_NoSize ga_NoSize gg_NoSize cl_NoSize kc_NoSize hget htk
  have E_NR : ErrC K C_NoRing := X_NR.errC sa_NoRing ga_NoRing gg_NoRing cl_NoRing kc_NoRing hget htk
  have E_NT : ErrC K C_NoText := X_NT.errC sa_NoText ga_NoText gg_NoText cl_NoText kc_NoText hget htk
  have eSS : PySem.W.exmAny K (.ref C_NoSize) [.ref C_NoSize, .ref C_NoRing] = some true := exmAny2 X_NS.exm (X_NS.exmNo X_NR (fun e => ne1 e.symm) ne3)
  have eRR : PySem.W.exmAny K (.ref C_NoRing) [.ref C_NoSize, .ref C_NoRing] = some true := exmAny2 (X_NR.exmNo X_NS ne1 ne2) X_NR.exm
  have g_NS := PySem.W.mg_of X G g_NoSize
  have g_NR := PySem.W.mg_of X G g_NoRing
  have g_NT := PySem.W.mg_of X G g_NoText
  have D_NS : ErrOk l.prog w K mg base CX0 1 C_NoSize "NoSize" "size" "size" := ⟨E_NS, g_NS, _, _, a_NoSize_init, i_NoSize_init, b_NoSize_init, ok_NoSize_init F_NoSize_init E_NS no_NoSize⟩
  have D_NR : ErrOk l.prog w K mg base CX0 1 C_NoRing "NoRing" "index" "index" := ⟨E_NR, g_NR, _, _, a_NoRing_init, i_NoRing_init, b_NoRing_init, ok_NoRing_init F_NoRing_init E_NR no_NoRing⟩
  have D_NT : ErrOk l.prog w K mg base CX0 1 C_NoText "NoText" "text" "text" := ⟨E_NT, g_NT, _, _, a_NoText_init, i_NoText_init, b_NoText_init, ok_NoText_init F_NoText_init E_NT no_NoText⟩
  have D_NTH : ErrOkH l.prog w K mg base CX0 1 C_NoText "NoText" "text" "text" := ⟨E_NT, g_NT, _, _, a_NoText_init, i_NoText_init, b_NoText_init, ok_NoText_initH F_NoText_init E_NT no_NoText⟩
  have D_l_cell : DefOk l.prog w K mg base CX0 1 "_law_cell" ["_law_script", "_law_k"] [] (spCell K) := ⟨_, _, [], PySem.W.mg_of X G a_l_cell, k_l_cell, b_l_cell, .nil, ok_cell F_l_cell B⟩
  have D_l_row : DefOk l.prog w K mg base CX0 1 "_law_row" ["_law_cell_here", "_law_sizes"] [] (spRow K) := ⟨_, _, [], PySem.W.mg_of X G a_l_row, k_l_row, b_l_row, .nil, ok_row F_l_row B⟩
  have D_l_drawn : DefOk l.prog w K mg base CX0 2 "_law_drawn" ["_law_cell_here", "_law_n"] [] spDrawn := ⟨_, _, [], PySem.W.mg_of X G a_l_drawn, k_l_drawn, b_l_drawn, .nil, ok_drawn F_l_drawn B D_l_row⟩
  have D_l_of_kind : DefOk l.prog w K mg base CX0 3 "_law_of_kind" ["_law_kind", "_law_bound", "_law_cell_here", "_law_n", "_law_draw"] [] spKind2 := ⟨_, _, [], PySem.W.mg_of X G a_l_of_kind, k_l_of_kind, b_l_of_kind, .nil, ok_l_of_kind2 F_l_of_kind B D_l_drawn⟩
  have D_l_size : DefOk l.prog w K mg base CX0 1 "_law_size" ["_law_draw"] [] spSize := ⟨_, _, [], PySem.W.mg_of X G a_l_size, k_l_size, b_l_size, .nil, ok_size F_l_size⟩
  have D_l_rings : DefOk l.prog w K mg base CX0 1 "_law_rings" ["_law_images"] [] (spRings K) := ⟨_, _, [], PySem.W.mg_of X G a_l_rings, k_l_rings, b_l_rings, .nil, ok_l_rings F_l_rings B⟩
  have D_moves_of : DefOk l.prog w K mg base CX0 1 "moves_of" ["rings", "size"] [] (spMoves K) := ⟨_, _, ds_moves_of, PySem.W.mg_of X G a_moves_of, k_moves_of, b_moves_of, vd_moves_of, ok_moves_of F_moves_of B⟩
  obtain ⟨ds1, vd1, b1⟩ := F_moves_of.binds1 (ps := ["rings", "size"]) 1 0 (by simp) rfl fun _ _ _ _ _ _ _ us its h1 h2 => match us, its, h1, h2 with | [_], [_], _, _ => ⟨_, rfl, rfl⟩
  have D_moves_of1 : DefOk l.prog w K mg base CX0 1 "moves_of" ["rings", "size"] [.non] (spMoves K) := ⟨_, _, ds1, PySem.W.mg_of X G a_moves_of, k_moves_of, b1, vd1, ok_moves_of F_moves_of B⟩
  have D_moves_ofN : DefOk l.prog w K mg base (L2N.CX l.prog w) 3 "moves_of" ["rings", "size"] [] (spMovesX K C_NoRing) := ⟨_, _, ds_moves_of, PySem.W.mg_of X G a_moves_of, k_moves_of, b_moves_of, vd_moves_of, ok_moves_ofN F_moves_of B D_NR⟩
  have D_rings_of : DefOk l.prog w K mg base CX0 1 "rings_of" ["moves"] [] spRingsOf := ⟨_, _, [], PySem.W.mg_of X G a_rings_of, k_rings_of, b_rings_of, .nil, ok_rings_of F_rings_of B⟩
  have D_rings_text : DefOk l.prog w K mg base CX0 1 "rings_text" ["rings"] [] (spText K) := ⟨_, _, [], PySem.W.mg_of X G a_rings_text, k_rings_text, b_rings_text, .nil, ok_rings_text F_rings_text B (N z_str)⟩
  have D_is_number : DefOk l.prog w K mg base CX0 1 "is_number" ["text"] [] spIsNum := ⟨_, _, [], PySem.W.mg_of X G a_is_number, k_is_number, b_is_number, .nil, ok_is_number F_is_number⟩
  have D_rings_in : DefOk l.prog w K mg base CX0 2 "rings_in" ["text"] [] spRingsIn2 := ringsIn2 ⟨_, _, [], PySem.W.mg_of X G a_rings_in, k_rings_in, b_rings_in, .nil, ok_rings_in F_rings_in B D_is_number⟩
  have D_with_integers : DefOk l.prog w K mg base CX0 1 "with_integers" ["rings"] [] (spWithInts K) := ⟨_, _, [], PySem.W.mg_of X G a_with_integers, k_with_integers, b_with_integers, .nil, ok_with_integers F_with_integers B⟩
  have M_Wire : MakeOk l.prog w K mg base CX0 2 C_Wire "Wire" ["self", "size", "rings"] [] (spInit K C_Wire) := ⟨g_W, _, _, [], ⟨mk_Wire, a_Wire_init, i_Wire_init, kc_Wire⟩, b_Wire_init, .nil, ok_Wire_init F_Wire_init B W D_moves_of⟩
  have M_WireN : MakeOk l.prog w K mg base (L2N.CX l.prog w) 4 C_Wire "Wire" ["self", "size", "rings"] [] (spCtor K C_Wire C_NoSize C_NoRing) := ⟨g_W, _, _, [], ⟨mk_Wire, a_Wire_init, i_Wire_init, kc_Wire⟩, b_Wire_init, .nil, fnOr (ok_Wire_init F_Wire_init B W D_moves_of) (ok_Wire_initN F_Wire_init D_moves_ofN D_NS) (by decide)⟩
  have D_Wire_rings : MethOk l.prog w K mg base CX0 2 C_Wire "rings" ["self"] [] (spWRings C_Wire) := ⟨_, _, [], ⟨a_Wire_rings, i_Wire_rings, k_Wire_rings⟩, b_Wire_rings, .nil, ok_Wire_rings F_Wire_rings B W D_rings_of⟩
  have D_Wire_getitem : MethOk l.prog w K mg base CX0 1 C_Wire "__getitem__" ["self", "at"] [] (spGet C_Wire) := ⟨_, _, [], ⟨a_Wire_getitem, i_Wire_getitem, k_Wire_getitem⟩, b_Wire_getitem, .nil, ok_Wire_getitem F_Wire_getitem B W⟩
  have D_Wire_str : MethOk l.prog w K mg base CX0 3 C_Wire "__str__" ["self"] [] (spStr C_Wire) := ⟨_, _, [], ⟨a_Wire_str, i_Wire_str, k_Wire_str⟩, b_Wire_str, .nil, ok_Wire_str F_Wire_str T W D_Wire_rings D_rings_text⟩
  have S_Wire_read : StatOk l.prog w K mg base (L2.CX l.prog w) 6 C_Wire "read" ["text"] [] (spRead K C_Wire C_NoText) := ⟨_, _, _, _, [], ⟨st_Wire_read, sd_Wire_read, sg_Wire_read, sf_Wire_read, ⟨_, sc_Wire_read⟩, k_Wire_read⟩, b_Wire_read, .nil,
    ok_Wire_read F_Wire_read B (N z_any) (PySem.W.mg_of X G v_MOST_DIGITS) g_NS g_NR eSS eRR D_rings_in D_is_number D_with_integers D_moves_of1 D_rings_of D_rings_text M_WireN D_NT D_NTH⟩
  have D_l_wire : DefOk l.prog w K mg base CX0 4 "_law_wire" ["_law_images"] [] (spLWire K C_Wire) := ⟨_, _, [], PySem.W.mg_of X G a_l_wire, k_l_wire, b_l_wire, .nil, ok_l_wire F_l_wire B M_Wire D_l_rings⟩
  have D_l_is_wire : DefOk l.prog w K mg base CX0 3 "_law_is_wire" ["_law_wire_here", "_law_images"] [] (spIsWire K C_Wire) := ⟨_, _, [], PySem.W.mg_of X G a_l_is_wire, k_l_is_wire, b_l_is_wire, .nil, ok_l_is_wire F_l_is_wire TT W hfn D_Wire_getitem⟩
  have D_l_text : DefOk l.prog w K mg base CX0 1 "_law_text" ["_law_rings_here"] [] (spText K) := ⟨_, _, [], PySem.W.mg_of X G a_l_text, k_l_text, b_l_text, .nil, ok_l_text F_l_text B (N z_str)⟩
  have D_l_sign : DefOk l.prog w K mg base CX0 1 "_law_sign" ["_law_k"] [] spSign := ⟨_, _, [], PySem.W.mg_of X G a_l_sign, k_l_sign, b_l_sign, .nil, ok_l_sign F_l_sign⟩
  have D_l_spoilt : DefOk l.prog w K mg base CX0 2 "_law_spoilt" ["_law_text_here", "_law_kind", "_law_place", "_law_k"] [] spSpoilt := ⟨_, _, [], PySem.W.mg_of X G a_l_spoilt, k_l_spoilt, b_l_spoilt, .nil, ok_l_spoilt F_l_spoilt B D_l_sign⟩
  have D_l_number : DefOk l.prog w K mg base CX0 1 "_law_number" ["_law_text_here"] [] spNumber := ⟨_, _, [], PySem.W.mg_of X G a_l_number, k_l_number, b_l_number, .nil, ok_l_number F_l_number B⟩
  have D_l_images_of : DefOk l.prog w K mg base CX0 2 "_law_images_of" ["_law_text_here"] [] spImagesOf := ⟨_, _, [], PySem.W.mg_of X G a_l_images_of, k_l_images_of, b_l_images_of, .nil, ok_l_images_of F_l_images_of B (N z_str) D_l_number D_l_text D_l_rings⟩
  have D_l_read : DefOk l.prog w K mg base CX0 7 "_law_read" ["_law_text_here"] [] (spLRead C_Wire) := ⟨_, _, [], PySem.W.mg_of X G a_l_read, k_l_read, b_l_read, .nil, ok_l_read F_l_read g_W E_NT g_NT no_NoText X_NT.exm S_Wire_read⟩
  exact ok_law F_law TT (N z_str) D_l_cell D_l_row D_l_size D_l_of_kind D_l_wire D_l_rings D_l_text D_Wire_str D_l_is_wire S_Wire_read D_l_spoilt D_l_images_of D_l_read

end TW
open PySem PySem.W PyProof.Rows
set_option maxRecDepth 100000 in
set_option maxHeartbeats 0 in
theorem PySem.Challenge.cw_turnwires_k05_texts_of_wires_holds : PySem.Challenge.rw_turnwires_k05_texts_of_wires.Holds := by
  w_on; o_law; k_head; (case hw => w_witness2)
  k_fill
  refine L2.walk_of (l := PySem.Challenge.rw_turnwires_k05_texts_of_wires) (n := 63) (k := 8) (x := "_law_script") (CX := fun w => L2.CX0) (sp := fun w => TW.spLaw _) rfl (by decide) rfl ⟨rfl, by decide, by decide⟩ (fun w h Y => PySem.W.kIn_of Y) ?F (fun _ _ a ns hl _ hS => ⟨a, ns, rfl, hS, hl, fun _ => rfl⟩) (fun _ _ _ _ _ h => h)
  case F =>
    intro w mg fa h KX G hmg
    refine' TW.all_mk KX G hmg ?g_Wire ?pg_Wire ?hd_Wire ?po_Wire ?sa_Wire ?mk_Wire ?kc_Wire ?n_Wire_size ?n_Wire__images ?g_WireError ?g_NoSize ?g_NoRing ?g_NoText ?x_WireError ?x_NoSize ?kc_NoSize ?sa_NoSize ?ga_NoSize ?gg_NoSize ?cl_NoSize ?no_NoSize ?x_NoRing ?kc_NoRing ?sa_NoRing ?ga_NoRing ?gg_NoRing ?cl_NoRing ?no_NoRing ?x_NoText ?kc_NoText ?sa_NoText ?ga_NoText ?gg_NoText ?cl_NoText ?no_NoText ?clw ?hget ?htk ?hmw ?ne1 ?ne2 ?ne3 ?z_len ?z_range ?z_int ?z_list ?z_enumerate ?z_dict ?z_zip ?z_set ?z_sorted ?z_all ?z_abs ?z_isinstance ?z_bool ?z_str ?z_any ?v_MOST_DIGITS ?a_l_cell ?l_l_cell ?c_l_cell ?k_l_cell ?a_l_row ?l_l_row ?c_l_row ?k_l_row ?a_l_drawn ?l_l_drawn ?c_l_drawn ?k_l_drawn ?a_l_of_kind ?l_l_of_kind ?c_l_of_kind ?k_l_of_kind ?a_l_size ?l_l_size ?c_l_size ?k_l_size ?a_l_rings ?l_l_rings ?c_l_rings ?k_l_rings ?a_moves_of ?l_moves_of ?lT_moves_of ?c_moves_of ?k_moves_of ?a_rings_of ?l_rings_of ?c_rings_of ?k_rings_of ?a_rings_text ?l_rings_text ?c_rings_text ?k_rings_text ?a_rings_in ?l_rings_in ?c_rings_in ?k_rings_in ?a_is_number ?l_is_number ?c_is_number ?k_is_number ?a_with_integers ?l_with_integers ?c_with_integers ?k_with_integers ?a_Wire_init ?i_Wire_init ?l_Wire_init ?c_Wire_init ?k_Wire_init ?a_Wire_rings ?i_Wire_rings ?l_Wire_rings ?c_Wire_rings ?k_Wire_rings ?a_Wire_getitem ?i_Wire_getitem ?l_Wire_getitem ?c_Wire_getitem ?k_Wire_getitem ?a_Wire_str ?i_Wire_str ?l_Wire_str ?c_Wire_str ?k_Wire_str ?st_Wire_read ?sd_Wire_read ?sg_Wire_read ?sf_Wire_read ?sc_Wire_read ?l_Wire_read ?c_Wire_read ?k_Wire_read ?a_NoSize_init ?i_NoSize_init ?l_NoSize_init ?c_NoSize_init ?k_NoSize_init ?a_NoRing_init ?i_NoRing_init ?l_NoRing_init ?c_NoRing_init ?k_NoRing_init ?a_NoText_init ?i_NoText_init ?l_NoText_init ?c_NoText_init ?k_NoText_init ?a_l_wire ?l_l_wire ?c_l_wire ?k_l_wire ?a_l_is_wire ?l_l_is_wire ?c_l_is_wire ?k_l_is_wire ?a_l_text ?l_l_text ?c_l_text ?k_l_text ?a_l_sign ?l_l_sign ?c_l_sign ?k_l_sign ?a_l_spoilt ?l_l_spoilt ?c_l_spoilt ?k_l_spoilt ?a_l_number ?l_l_number ?c_l_number ?k_l_number ?a_l_images_of ?l_l_images_of ?c_l_images_of ?k_l_images_of ?a_l_read ?l_l_read ?c_l_read ?k_l_read ?a_law ?l_law ?c_law ?k_law ?fnget
    (case g_Wire => k_is)
    (case pg_Wire => k_is)
    (case hd_Wire => k_is)
    (case po_Wire => k_is)
    (case sa_Wire => k_is)
    (case mk_Wire => k_is)
    (case kc_Wire => k_is)
    (case n_Wire_size => k_is)
    (case n_Wire__images => k_is)
    (case g_WireError => k_is)
    (case g_NoSize => k_is)
    (case g_NoRing => k_is)
    (case g_NoText => k_is)
    (case x_WireError => k_is)
    (case x_NoSize => k_is)
    (case kc_NoSize => k_is)
    (case sa_NoSize => k_is)
    (case ga_NoSize => k_is)
    (case gg_NoSize => k_is)
    (case cl_NoSize => k_is)
    (case no_NoSize => k_is)
    (case x_NoRing => k_is)
    (case kc_NoRing => k_is)
    (case sa_NoRing => k_is)
    (case ga_NoRing => k_is)
    (case gg_NoRing => k_is)
    (case cl_NoRing => k_is)
    (case no_NoRing => k_is)
    (case x_NoText => k_is)
    (case kc_NoText => k_is)
    (case sa_NoText => k_is)
    (case ga_NoText => k_is)
    (case gg_NoText => k_is)
    (case cl_NoText => k_is)
    (case no_NoText => k_is)
    (case clw => k_is)
    (case hget => k_is)
    (case htk => k_is)
    (case hmw => k_is)
    (case ne1 => decide)
    (case ne2 => decide)
    (case ne3 => decide)
    (case z_len => k_is)
    (case z_range => k_is)
    (case z_int => k_is)
    (case z_list => k_is)
    (case z_enumerate => k_is)
    (case z_dict => k_is)
    (case z_zip => k_is)
    (case z_set => k_is)
    (case z_sorted => k_is)
    (case z_all => k_is)
    (case z_abs => k_is)
    (case z_isinstance => k_is)
    (case z_bool => k_is)
    (case z_str => k_is)
    (case z_any => k_is)
    (case v_MOST_DIGITS => k_is)
    (case a_l_cell => k_is)
    (case l_l_cell => k_is)
    (case c_l_cell => k_is)
    (case k_l_cell => k_is)
    (case a_l_row => k_is)
    (case l_l_row => k_is)
    (case c_l_row => k_is)
    (case k_l_row => k_is)
    (case a_l_drawn => k_is)
    (case l_l_drawn => k_is)
    (case c_l_drawn => k_is)
    (case k_l_drawn => k_is)
    (case a_l_of_kind => k_is)
    (case l_l_of_kind => k_is)
    (case c_l_of_kind => k_is)
    (case k_l_of_kind => k_is)
    (case a_l_size => k_is)
    (case l_l_size => k_is)
    (case c_l_size => k_is)
    (case k_l_size => k_is)
    (case a_l_rings => k_is)
    (case l_l_rings => k_is)
    (case c_l_rings => k_is)
    (case k_l_rings => k_is)
    (case a_moves_of => k_is)
    (case l_moves_of => k_is)
    (case lT_moves_of => k_is)
    (case c_moves_of => k_is)
    (case k_moves_of => k_is)
    (case a_rings_of => k_is)
    (case l_rings_of => k_is)
    (case c_rings_of => k_is)
    (case k_rings_of => k_is)
    (case a_rings_text => k_is)
    (case l_rings_text => k_is)
    (case c_rings_text => k_is)
    (case k_rings_text => k_is)
    (case a_rings_in => k_is)
    (case l_rings_in => k_is)
    (case c_rings_in => k_is)
    (case k_rings_in => k_is)
    (case a_is_number => k_is)
    (case l_is_number => k_is)
    (case c_is_number => k_is)
    (case k_is_number => k_is)
    (case a_with_integers => k_is)
    (case l_with_integers => k_is)
    (case c_with_integers => k_is)
    (case k_with_integers => k_is)
    (case a_Wire_init => k_is)
    (case i_Wire_init => k_is)
    (case l_Wire_init => k_is)
    (case c_Wire_init => k_is)
    (case k_Wire_init => k_is)
    (case a_Wire_rings => k_is)
    (case i_Wire_rings => k_is)
    (case l_Wire_rings => k_is)
    (case c_Wire_rings => k_is)
    (case k_Wire_rings => k_is)
    (case a_Wire_getitem => k_is)
    (case i_Wire_getitem => k_is)
    (case l_Wire_getitem => k_is)
    (case c_Wire_getitem => k_is)
    (case k_Wire_getitem => k_is)
    (case a_Wire_str => k_is)
    (case i_Wire_str => k_is)
    (case l_Wire_str => k_is)
    (case c_Wire_str => k_is)
    (case k_Wire_str => k_is)
    (case st_Wire_read => k_is)
    (case sd_Wire_read => k_is)
    (case sg_Wire_read => k_is)
    (case sf_Wire_read => k_is)
    (case sc_Wire_read => k_is)
    (case l_Wire_read => k_is)
    (case c_Wire_read => k_is)
    (case k_Wire_read => k_is)
    (case a_NoSize_init => k_is)
    (case i_NoSize_init => k_is)
    (case l_NoSize_init => k_is)
    (case c_NoSize_init => k_is)
    (case k_NoSize_init => k_is)
    (case a_NoRing_init => k_is)
    (case i_NoRing_init => k_is)
    (case l_NoRing_init => k_is)
    (case c_NoRing_init => k_is)
    (case k_NoRing_init => k_is)
    (case a_NoText_init => k_is)
    (case i_NoText_init => k_is)
    (case l_NoText_init => k_is)
    (case c_NoText_init => k_is)
    (case k_NoText_init => k_is)
    (case a_l_wire => k_is)
    (case l_l_wire => k_is)
    (case c_l_wire => k_is)
    (case k_l_wire => k_is)
    (case a_l_is_wire => k_is)
    (case l_l_is_wire => k_is)
    (case c_l_is_wire => k_is)
    (case k_l_is_wire => k_is)
    (case a_l_text => k_is)
    (case l_l_text => k_is)
    (case c_l_text => k_is)
    (case k_l_text => k_is)
    (case a_l_sign => k_is)
    (case l_l_sign => k_is)
    (case c_l_sign => k_is)
    (case k_l_sign => k_is)
    (case a_l_spoilt => k_is)
    (case l_l_spoilt => k_is)
    (case c_l_spoilt => k_is)
    (case k_l_spoilt => k_is)
    (case a_l_number => k_is)
    (case l_l_number => k_is)
    (case c_l_number => k_is)
    (case k_l_number => k_is)
    (case a_l_images_of => k_is)
    (case l_l_images_of => k_is)
    (case c_l_images_of => k_is)
    (case k_l_images_of => k_is)
    (case a_l_read => k_is)
    (case l_l_read => k_is)
    (case c_l_read => k_is)
    (case k_l_read => k_is)
    (case a_law => k_is)
    (case l_law => k_is)
    (case c_law => k_is)
    (case k_law => k_is)
    (case fnget => k_is)
#print axioms PySem.Challenge.cw_turnwires_k05_texts_of_wires_holds
