import PyProof.Rows.All
import Wide.All
import OpenK.AllK
import Wide.FinOn
import HandS.ForMost
import HandS.Walk
import HandS.Strs
import HandS.IsInst
import HandS.Gcd
import HandS.Defaults
import HandS.More
import HandS.Conv
import KE.KDictZip
import KE.KMathG
import HandS.Base
import HandS.Call
import HandS.CallSlots
import HandS.Comp
import HandS.Conv
import HandS.Dict
import HandS.DictComp
import HandS.ExcField
import HandS.ExcInit
import HandS.ExcInitHot
import HandS.ExcIs
import HandS.ExcOwn
import HandS.ExcValue
import HandS.ForMost
import HandS.IsInst
import HandS.Iter
import HandS.List
import HandS.MakeKwOnly
import HandS.Property
import HandS.Set
import HandS.SetBool
import HandS.SetFor
import HandS.Strs
import HandS.TryMany
import HandS.Walk
import HandS.WordsExc
import KE.KCallOwn
import KE.KDictZip
import KE.KExcIs
import KE.KMathG
import KE.KOpsOwn
import OpenK.AllK
import PyProof.InstNe
import PyProof.Rows.All
import PyProof.Rows.SortShellK
import PyProof.Rows.SortStr
import Wide.All
import Wide.FinOn
import HandS.Flow
import HandS.FStr
import PyProof.StrLawsTight
import PyProof.Rows.StrLawsPart
import KE.KIntText
import HandS.StrMore
import HandS.DictComp
import HandS.Conv
import HandS.More
import HandS.OwnEq
import HandS.Defaults
import PySem.Challenge.RW_turnwires_k06_holes_and_known_wires
set_option Elab.async false
set_option linter.all false
set_option maxRecDepth 100000
namespace TW
/-! ### iteration -/
def it (f : Nat → Nat) : Nat → Nat → Nat
  | 0, x => x
  | k + 1, x => f (it f k x)
theorem it_add (f : Nat → Nat) (a b x : Nat) : it f (a + b) x = it f a (it f b x) := by
  induction a with
  | zero => rw [Nat.zero_add]; rfl
  | succ a ih => rw [Nat.succ_add]; show f (it f (a + b) x) = f (it f a (it f b x)); rw [ih]
theorem it_succ' (f : Nat → Nat) (k x : Nat) : it f (k + 1) x = it f k (f x) := it_add f k 1 x
/-- f leads the places below n to places below n, one to one -/
structure PermF (f : Nat → Nat) (n : Nat) : Prop where
  lt : ∀ x, x < n → f x < n
  inj : ∀ x y, x < n → y < n → f x = f y → x = y
theorem PermF.it_lt {f : Nat → Nat} {n : Nat} (P : PermF f n) (k : Nat) {x : Nat} (h : x < n) : it f k x < n := by
  induction k with
  | zero => exact h
  | succ k ih => exact P.lt _ ih
theorem PermF.it_inj {f : Nat → Nat} {n : Nat} (P : PermF f n) (k : Nat) {x y : Nat} (hx : x < n) (hy : y < n) (e : it f k x = it f k y) : x = y := by
  induction k with
  | zero => exact e
  | succ k ih => exact ih (P.inj _ _ (P.it_lt k hx) (P.it_lt k hy) e)
theorem nodup_le : ∀ (n : Nat) (l : List Nat), l.Nodup → (∀ x ∈ l, x < n) → l.length ≤ n
  | 0, l, _, h => by
    cases l with
    | nil => exact Nat.le_refl _
    | cons a r => exact absurd (h a List.mem_cons_self) (Nat.not_lt_zero _)
  | n + 1, l, nd, h => by
    have h1 : (l.erase n).Nodup := nd.erase n
    have h2 : ∀ x ∈ l.erase n, x < n := fun x hx => by
      have a := (List.Nodup.mem_erase_iff nd).mp hx
      have b := h x a.2
      have c := a.1
      omega
    have ih := nodup_le n (l.erase n) h1 h2
    have e : l.length ≤ (l.erase n).length + 1 := by
      rw [List.length_erase]
      split <;> omega
    omega
theorem not_nodup_of_long {n : Nat} {l : List Nat} (h : ∀ x ∈ l, x < n) (hl : n < l.length) : ¬ l.Nodup := fun nd => by
  have := nodup_le n l nd h
  omega
theorem exists_return {f : Nat → Nat} {n : Nat} (P : PermF f n) {p : Nat} (hp : p < n) : ∃ m, 0 < m ∧ m ≤ n ∧ it f m p = p := by
  by_cases hex : ∃ i j, i < j ∧ j ≤ n ∧ it f i p = it f j p
  · obtain ⟨i, j, hij, hj, e⟩ := hex
    refine ⟨j - i, by omega, by omega, ?_⟩
    have e2 : j = i + (j - i) := by omega
    rw [e2, it_add] at e
    exact (P.it_inj i hp (P.it_lt _ hp) e).symm
  · exfalso
    refine not_nodup_of_long (n := n) (l := (List.range (n + 1)).map fun k => it f k p) ?_ ?_ ?_
    · intro x hx
      obtain ⟨k, _, rfl⟩ := List.mem_map.mp hx
      exact P.it_lt k hp
    · rw [List.length_map, List.length_range]; omega
    · rw [List.nodup_iff_pairwise_ne, List.pairwise_map]
      refine List.Pairwise.imp_of_mem ?_ (List.pairwise_lt_range (n := n + 1))
      intro a b ha hb hab e
      exact hex ⟨a, b, hab, by have := List.mem_range.mp hb; omega, e⟩
/-- the least k ≥ 1 with it f k p = p, sought below n -/
def perA (f : Nat → Nat) (p : Nat) : Nat → Nat → Nat
  | 0, k => k
  | fuel + 1, k => if it f k p = p then k else perA f p fuel (k + 1)
def per (f : Nat → Nat) (n p : Nat) : Nat := perA f p n 1
theorem perA_spec (f : Nat → Nat) (p : Nat) : ∀ (fuel k m : Nat), k ≤ m → m < k + fuel → it f m p = p → (∀ i, 0 < i → i < k → it f i p ≠ p) → 0 < k →
    0 < perA f p fuel k ∧ it f (perA f p fuel k) p = p ∧ perA f p fuel k ≤ m ∧ ∀ i, 0 < i → i < perA f p fuel k → it f i p ≠ p
  | 0, k, m, h1, h2, _, _, _ => by omega
  | fuel + 1, k, m, h1, h2, e, hl, hk => by
    unfold perA
    by_cases c : it f k p = p
    · rw [if_pos c]
      exact ⟨hk, c, h1, hl⟩
    · rw [if_neg c]
      have hkm : k ≠ m := fun z => c (z ▸ e)
      refine perA_spec f p fuel (k + 1) m (by omega) (by omega) e (fun i i0 ik => ?_) (by omega)
      by_cases ci : i = k
      · rw [ci]; exact c
      · exact hl i i0 (by omega)
section
variable {f : Nat → Nat} {n : Nat} (P : PermF f n) {p : Nat} (hp : p < n)
include P hp
theorem per_spec : 0 < per f n p ∧ it f (per f n p) p = p ∧ per f n p ≤ n ∧ ∀ i, 0 < i → i < per f n p → it f i p ≠ p := by
  obtain ⟨m, h0, hm, e⟩ := exists_return P hp
  obtain ⟨a, b, c, d⟩ := perA_spec f p n 1 m (by omega) (by omega) e (fun i _ _ => by omega) (by omega)
  exact ⟨a, b, Nat.le_trans c hm, d⟩
theorem per_mod (k : Nat) : it f k p = it f (k % per f n p) p := by
  obtain ⟨h0, e, _, _⟩ := per_spec P hp
  have key : ∀ q r, it f (q * per f n p + r) p = it f r p := by
    intro q
    induction q with
    | zero => intro r; rw [Nat.zero_mul, Nat.zero_add]
    | succ q ih =>
      intro r
      rw [show (q + 1) * per f n p + r = (q * per f n p + r) + per f n p by rw [Nat.succ_mul]; omega, it_add, e]
      exact ih r
  conv => lhs; rw [← Nat.div_add_mod k (per f n p), Nat.mul_comm]
  exact key _ _
theorem it_inj_lt {i j : Nat} (hi : i < per f n p) (hj : j < per f n p) (e : it f i p = it f j p) : i = j := by
  obtain ⟨h0, _, _, hl⟩ := per_spec P hp
  have key : ∀ a b, a < b → b < per f n p → it f a p = it f b p → False := by
    intro a b hab hb e
    have e2 : b = a + (b - a) := by omega
    rw [e2, it_add] at e
    exact hl (b - a) (by omega) (by omega) (P.it_inj a hp (P.it_lt _ hp) e).symm
  rcases Nat.lt_trichotomy i j with h | h | h
  · exact (key i j h hj e).elim
  · exact h
  · exact (key j i h hi e.symm).elim
end
/-- the ring of p -/
def ring (f : Nat → Nat) (n p : Nat) : List Nat := (List.range (per f n p)).map fun k => it f k p
theorem ring_len (f : Nat → Nat) (n p : Nat) : (ring f n p).length = per f n p := by unfold ring; rw [List.length_map, List.length_range]
theorem ring_get (f : Nat → Nat) (n p k : Nat) (h : k < per f n p) : (ring f n p)[k]? = some (it f k p) := by
  unfold ring; rw [List.getElem?_map, List.getElem?_range h]; rfl
section
variable {f : Nat → Nat} {n : Nat} (P : PermF f n) {p x : Nat} (hp : p < n)
include P hp
theorem mem_ring : x ∈ ring f n p ↔ ∃ k, it f k p = x := by
  constructor
  · intro h
    obtain ⟨k, _, e⟩ := List.mem_map.mp h
    exact ⟨k, e⟩
  · rintro ⟨k, e⟩
    refine List.mem_map.mpr ⟨k % per f n p, List.mem_range.mpr (Nat.mod_lt _ (per_spec P hp).1), ?_⟩
    rw [← per_mod P hp, e]
theorem ring_lt (h : x ∈ ring f n p) : x < n := by
  obtain ⟨k, rfl⟩ := (mem_ring P hp).mp h
  exact P.it_lt k hp
theorem ring_nodup : (ring f n p).Nodup := by
  unfold ring
  rw [List.nodup_iff_pairwise_ne, List.pairwise_map]
  refine List.Pairwise.imp_of_mem ?_ (List.pairwise_lt_range (n := per f n p))
  intro a b ha hb hab e
  have := it_inj_lt P hp (List.mem_range.mp ha) (List.mem_range.mp hb) e
  omega
theorem self_ring : p ∈ ring f n p := (mem_ring P hp).mpr ⟨0, rfl⟩
theorem ring_symm (h : x ∈ ring f n p) : p ∈ ring f n x := by
  have hx := ring_lt P hp h
  obtain ⟨k, _, e⟩ := List.mem_map.mp h
  have hk := List.mem_range.mp ‹_›
  refine (mem_ring P hx).mpr ⟨per f n p - k, ?_⟩
  have e : it f k p = x := e
  rw [← e, ← it_add, Nat.sub_add_cancel (Nat.le_of_lt hk)]
  exact (per_spec P hp).2.1
theorem ring_trans {y : Nat} (h : x ∈ ring f n p) (h2 : y ∈ ring f n x) : y ∈ ring f n p := by
  have hx := ring_lt P hp h
  obtain ⟨k, e⟩ := (mem_ring P hp).mp h
  obtain ⟨j, e2⟩ := (mem_ring P hx).mp h2
  refine (mem_ring P hp).mpr ⟨j + k, ?_⟩
  rw [it_add, e, e2]
theorem ring_next (h : x ∈ ring f n p) : f x ∈ ring f n p := by
  obtain ⟨k, e⟩ := (mem_ring P hp).mp h
  exact (mem_ring P hp).mpr ⟨k + 1, by show f (it f k p) = f x; rw [e]⟩
theorem per_one : per f n p = 1 ↔ f p = p := by
  obtain ⟨h0, e, _, hl⟩ := per_spec P hp
  constructor
  · intro h
    rw [h] at e
    exact e
  · intro h
    rcases Nat.lt_or_ge 1 (per f n p) with c | c
    · exact absurd h (hl 1 (by omega) c)
    · omega
end
/-- p is the least of its ring -/
def lead (f : Nat → Nat) (n p : Nat) : Bool := (ring f n p).all fun x => decide (p ≤ x)
theorem lead_iff (f : Nat → Nat) (n p : Nat) : lead f n p = true ↔ ∀ x ∈ ring f n p, p ≤ x := by
  unfold lead
  rw [List.all_eq_true]
  constructor
  · intro h x hx; exact of_decide_eq_true (h x hx)
  · intro h x hx; exact decide_eq_true (h x hx)
theorem exists_min : ∀ (l : List Nat), l ≠ [] → ∃ m, m ∈ l ∧ ∀ x ∈ l, m ≤ x
  | [], h => absurd rfl h
  | [a], _ => ⟨a, List.mem_cons_self, fun x hx => by rw [List.mem_singleton.mp hx]; exact Nat.le_refl _⟩
  | a :: b :: r, _ => by
    obtain ⟨m, hm, hl⟩ := exists_min (b :: r) (by simp)
    by_cases c : a ≤ m
    · refine ⟨a, List.mem_cons_self, fun x hx => ?_⟩
      rcases List.mem_cons.mp hx with e | e
      · omega
      · have := hl x e; omega
    · refine ⟨m, List.mem_cons_of_mem _ hm, fun x hx => ?_⟩
      rcases List.mem_cons.mp hx with e | e
      · omega
      · exact hl x e
section
variable {f : Nat → Nat} {n : Nat} (P : PermF f n) {p : Nat} (hp : p < n)
include P hp
/-- the least of p's ring -/
theorem leader_of : ∃ q, q ≤ p ∧ lead f n q = true ∧ p ∈ ring f n q ∧ q ∈ ring f n p := by
  obtain ⟨q, hq, hl⟩ := exists_min (ring f n p) (fun z => by have := self_ring P hp; rw [z] at this; cases this)
  have hqn := ring_lt P hp hq
  refine ⟨q, hl p (self_ring P hp), (lead_iff f n q).mpr fun x hx => hl x (ring_trans P hp hq hx), ring_symm P hp hq, hq⟩
/-- p is no leader just if a lesser leader's ring has it -/
theorem not_lead_iff : lead f n p = false ↔ ∃ q, q < p ∧ lead f n q = true ∧ p ∈ ring f n q := by
  constructor
  · intro h
    obtain ⟨q, hqp, hl, hm, _⟩ := leader_of P hp
    refine ⟨q, ?_, hl, hm⟩
    rcases Nat.lt_or_ge q p with c | c
    · exact c
    · have e : q = p := by omega
      rw [e] at hl
      rw [hl] at h
      cases h
  · rintro ⟨q, hqp, hl, hm⟩
    have hqn : q < n := by omega
    have h2 := ring_symm P hqn hm
    cases c : lead f n p with
    | false => rfl
    | true =>
      have := (lead_iff f n p).mp c q h2
      omega
end
theorem lead_unique {f : Nat → Nat} {n : Nat} (P : PermF f n) {p q x : Nat} (hp : p < n) (hq : q < n) (lp : lead f n p = true) (lq : lead f n q = true) (h1 : x ∈ ring f n p) (h2 : x ∈ ring f n q) : p = q := by
  have hx := ring_lt P hp h1
  have a : p ∈ ring f n q := ring_trans P hq h2 (ring_symm P hp h1)
  have b : q ∈ ring f n p := ring_trans P hp h1 (ring_symm P hq h2)
  have c := (lead_iff f n q).mp lq p a
  have d := (lead_iff f n p).mp lp q b
  omega
/-- the rings of two or more places, of leaders below i -/
def heads (f : Nat → Nat) (n i : Nat) : List Nat := (List.range i).filter fun p => lead f n p && decide (f p ≠ p)
def ringsTo (f : Nat → Nat) (n i : Nat) : List (List Nat) := (heads f n i).map (ring f n)
def rings (f : Nat → Nat) (n : Nat) : List (List Nat) := ringsTo f n n
theorem ringsTo_succ (f : Nat → Nat) (n i : Nat) : ringsTo f n (i + 1) = ringsTo f n i ++ (if lead f n i = true ∧ f i ≠ i then [ring f n i] else []) := by
  unfold ringsTo heads
  rw [List.range_succ, List.filter_append, List.map_append]
  congr 1
  by_cases c : lead f n i = true ∧ f i ≠ i
  · rw [if_pos c, List.filter_cons_of_pos (by simp [c.1, c.2])]
    rfl
  · rw [if_neg c, List.filter_cons_of_neg (by simp only [Bool.and_eq_true, decide_eq_true_eq]; exact c)]
    rfl
theorem mem_heads {f : Nat → Nat} {n i p : Nat} : p ∈ heads f n i ↔ p < i ∧ lead f n p = true ∧ f p ≠ p := by
  unfold heads
  rw [List.mem_filter, List.mem_range, Bool.and_eq_true, decide_eq_true_eq]
end TW

namespace TW
/-! ### a ring's pairs -/
def rot (r : List Nat) : List Nat := r.drop 1 ++ r.take 1
def nxt (r : List Nat) : List (Nat × Nat) := r.zip (rot r)
def graph (f : Nat → Nat) (r : List Nat) : List (Nat × Nat) := r.map fun x => (x, f x)
/-- the ring is led on by f -/
def Follows (f : Nat → Nat) (r : List Nat) : Prop := nxt r = graph f r
theorem rot_len (r : List Nat) : (rot r).length = r.length := by
  unfold rot
  rw [List.length_append, List.length_drop, List.length_take]
  omega
theorem follows_iff {f : Nat → Nat} {r : List Nat} : Follows f r ↔ rot r = r.map f := by
  unfold Follows nxt graph
  constructor
  · intro h
    have e := congrArg (List.map Prod.snd) h
    rw [List.map_snd_zip (by rw [rot_len]; exact Nat.le_refl _), List.map_map] at e
    exact e
  · intro h
    rw [h]
    clear h
    induction r with
    | nil => rfl
    | cons a r ih => show (a, f a) :: r.zip (r.map f) = (a, f a) :: r.map (fun x => (x, f x)); rw [ih]
theorem follows_ring {f : Nat → Nat} {n : Nat} (P : PermF f n) {p : Nat} (hp : p < n) : Follows f (ring f n p) := by
  rw [follows_iff]
  obtain ⟨h0, e, _, _⟩ := per_spec P hp
  apply List.ext_getElem?
  intro i
  unfold rot
  rw [List.getElem?_append, List.length_drop, ring_len, List.getElem?_map]
  by_cases c : i < per f n p - 1
  · rw [if_pos c, List.getElem?_drop, ring_get f n p (1 + i) (by omega), ring_get f n p i (by omega)]
    rw [Nat.add_comm]
    rfl
  · rw [if_neg c]
    by_cases c2 : i = per f n p - 1
    · rw [c2, Nat.sub_self, ring_get f n p _ (by omega), List.getElem?_take]
      rw [if_pos (by omega), ring_get f n p 0 h0]
      show some p = some (f (it f (per f n p - 1) p))
      have : it f (per f n p - 1 + 1) p = f (it f (per f n p - 1) p) := rfl
      rw [← this, Nat.sub_add_cancel h0, e]
    · rw [List.getElem?_take]
      have l : (ring f n p)[i]? = none := List.getElem?_eq_none (by rw [ring_len]; omega)
      rw [l]
      by_cases c3 : i - (per f n p - 1) < 1
      · exfalso; omega
      · rw [if_neg c3]; rfl
/-! ### the heads, once more -/
theorem heads_sorted (f : Nat → Nat) (n i : Nat) : (heads f n i).Pairwise (· < ·) := List.Pairwise.filter _ List.pairwise_lt_range
theorem ext_sorted : ∀ {l m : List Nat}, l.Pairwise (· < ·) → m.Pairwise (· < ·) → (∀ x, x ∈ l ↔ x ∈ m) → l = m
  | [], [], _, _, _ => rfl
  | [], b :: m, _, _, h => absurd ((h b).mpr List.mem_cons_self) (by simp)
  | a :: l, [], _, _, h => absurd ((h a).mp List.mem_cons_self) (by simp)
  | a :: l, b :: m, hl, hm, h => by
    obtain ⟨ha, hl'⟩ := List.pairwise_cons.mp hl
    obtain ⟨hb, hm'⟩ := List.pairwise_cons.mp hm
    have e : a = b := by
      rcases List.mem_cons.mp ((h a).mp List.mem_cons_self) with q | q
      · exact q
      · rcases List.mem_cons.mp ((h b).mpr List.mem_cons_self) with q2 | q2
        · exact q2.symm
        · have := hb a q
          have := ha b q2
          omega
    subst e
    congr 1
    refine ext_sorted hl' hm' fun x => ?_
    constructor
    · intro hx
      rcases List.mem_cons.mp ((h x).mp (List.mem_cons_of_mem _ hx)) with q | q
      · have := ha x hx; omega
      · exact q
    · intro hx
      rcases List.mem_cons.mp ((h x).mpr (List.mem_cons_of_mem _ hx)) with q | q
      · have := hb x hx; omega
      · exact q
/-- sorted keys that hold all places that move give the same heads -/
theorem heads_of {f : Nat → Nat} {n : Nat} {ys : List Nat} (hs : ys.Pairwise (· < ·)) (hlt : ∀ y ∈ ys, y < n) (hall : ∀ x, x < n → f x ≠ x → x ∈ ys) :
    ys.filter (fun p => lead f n p && decide (f p ≠ p)) = heads f n n := by
  refine ext_sorted (List.Pairwise.filter _ hs) (heads_sorted f n n) fun x => ?_
  rw [mem_heads, List.mem_filter, Bool.and_eq_true, decide_eq_true_eq]
  constructor
  · rintro ⟨a, b, c⟩; exact ⟨hlt x a, b, c⟩
  · rintro ⟨a, b, c⟩; exact ⟨hall x a c, b, c⟩
/-! ### all rings in a row -/
theorem flatten_nodup {f : Nat → Nat} {n : Nat} (P : PermF f n) : ∀ {hs : List Nat}, hs.Pairwise (· < ·) → (∀ p ∈ hs, p < n ∧ lead f n p = true) → ((hs.map (ring f n)).flatten).Nodup
  | [], _, _ => by simp
  | p :: hs, h, hl => by
    obtain ⟨h1, h2⟩ := List.pairwise_cons.mp h
    obtain ⟨hp, lp⟩ := hl p List.mem_cons_self
    show (ring f n p ++ (hs.map (ring f n)).flatten).Nodup
    rw [List.nodup_append]
    refine ⟨ring_nodup P hp, flatten_nodup P h2 fun q hq => hl q (List.mem_cons_of_mem _ hq), fun a ha b hb e => ?_⟩
    subst e
    obtain ⟨r, hr, har⟩ := List.mem_flatten.mp hb
    obtain ⟨q, hq, rfl⟩ := List.mem_map.mp hr
    obtain ⟨hqn, lq⟩ := hl q (List.mem_cons_of_mem _ hq)
    have := h1 q hq
    have := lead_unique P hp hqn lp lq ha har
    omega
theorem rings_nodup {f : Nat → Nat} {n : Nat} (P : PermF f n) : (rings f n).flatten.Nodup :=
  flatten_nodup P (heads_sorted f n n) fun p hp => by obtain ⟨a, b, _⟩ := mem_heads.mp hp; exact ⟨a, b⟩
theorem rings_lt {f : Nat → Nat} {n : Nat} (P : PermF f n) {x : Nat} (h : x ∈ (rings f n).flatten) : x < n := by
  obtain ⟨r, hr, hx⟩ := List.mem_flatten.mp h
  obtain ⟨q, hq, rfl⟩ := List.mem_map.mp hr
  exact ring_lt P (mem_heads.mp hq).1 hx
theorem rings_all {f : Nat → Nat} {n : Nat} (P : PermF f n) {x : Nat} (hx : x < n) (hm : f x ≠ x) : x ∈ (rings f n).flatten := by
  obtain ⟨q, hq, lq, h1, h2⟩ := leader_of P hx
  have hqn : q < n := by omega
  refine List.mem_flatten.mpr ⟨ring f n q, List.mem_map.mpr ⟨q, mem_heads.mpr ⟨hqn, lq, fun e => ?_⟩, rfl⟩, h1⟩
  have o := (per_one P hqn).mpr e
  have l : ring f n q = [q] := by unfold ring; rw [o]; rfl
  rw [l] at h1
  rw [List.mem_singleton.mp h1] at hm
  exact hm e
theorem rings_ne {f : Nat → Nat} {n : Nat} (P : PermF f n) {r : List Nat} (h : r ∈ rings f n) : r ≠ [] := by
  obtain ⟨q, hq, rfl⟩ := List.mem_map.mp h
  intro e
  have := self_ring P (mem_heads.mp hq).1
  rw [e] at this
  cases this
theorem rings_follow {f : Nat → Nat} {n : Nat} (P : PermF f n) {r : List Nat} (h : r ∈ rings f n) : Follows f r := by
  obtain ⟨q, hq, rfl⟩ := List.mem_map.mp h
  exact follows_ring P (mem_heads.mp hq).1
theorem graph_append (f : Nat → Nat) (a b : List Nat) : graph f (a ++ b) = graph f a ++ graph f b := List.map_append
theorem graph_fst (f : Nat → Nat) (a : List Nat) : (graph f a).map Prod.fst = a := by
  unfold graph
  rw [List.map_map]
  show a.map (fun x => x) = a
  exact List.map_id' a
/-! ### a list as a map of its places -/
def ap (im : List Nat) (x : Nat) : Nat := im.getD x 0
structure IsPerm (im : List Nat) : Prop where
  nd : im.Nodup
  lt : ∀ x ∈ im, x < im.length
theorem ap_get {im : List Nat} {x : Nat} (h : x < im.length) : im[x]? = some (ap im x) := by
  unfold ap
  rw [List.getD_eq_getElem?_getD, List.getElem?_eq_getElem h]
  rfl
theorem ap_mem {im : List Nat} {x : Nat} (h : x < im.length) : ap im x ∈ im := List.mem_of_getElem? (ap_get h)
theorem IsPerm.perm {im : List Nat} (h : IsPerm im) : PermF (ap im) im.length where
  lt x hx := h.lt _ (ap_mem hx)
  inj x y hx hy e := by
    have a := ap_get hx
    have b := ap_get hy
    rw [e] at a
    obtain ⟨h1, e1⟩ := List.getElem?_eq_some_iff.mp a
    obtain ⟨h2, e2⟩ := List.getElem?_eq_some_iff.mp b
    exact (List.getElem_inj h.nd).mp (e1.trans e2.symm)
theorem im_eq (im : List Nat) : (List.range im.length).map (ap im) = im := by
  apply List.ext_getElem?
  intro i
  rw [List.getElem?_map]
  by_cases c : i < im.length
  · rw [List.getElem?_range c, ap_get c]; rfl
  · rw [List.getElem?_eq_none (by rw [List.length_range]; omega), List.getElem?_eq_none (by omega)]; rfl
end TW

namespace TW
/-! ### drawing -/
theorem isPerm_of {n : Nat} {im : List Nat} (h : im.Perm (List.range n)) : IsPerm im ∧ im.length = n := by
  have hl : im.length = n := by rw [h.length_eq, List.length_range]
  refine ⟨⟨h.nodup_iff.mpr List.nodup_range, fun x hx => ?_⟩, hl⟩
  rw [hl]
  exact List.mem_range.mp (h.mem_iff.mp hx)
theorem cons_erase_perm : ∀ {l : List Nat} {k x : Nat}, l[k]? = some x → (x :: l.eraseIdx k).Perm l
  | [], k, x, h => by simp at h
  | a :: l, 0, x, h => by
    have e : a = x := Option.some.inj h
    rw [e]
    exact List.Perm.refl _
  | a :: l, k + 1, x, h => by
    have ih := cons_erase_perm (l := l) (k := k) (x := x) h
    exact (List.Perm.swap a x (l.eraseIdx k)).trans (List.Perm.cons a ih)
theorem draw_step {n k x : Nat} {im rest : List Nat} (h : (im ++ rest).Perm (List.range n)) (hx : rest[k]? = some x) : ((im ++ [x]) ++ rest.eraseIdx k).Perm (List.range n) := by
  obtain ⟨hk, e⟩ := List.getElem?_eq_some_iff.mp hx
  refine List.Perm.trans ?_ h
  rw [List.append_assoc]
  refine List.Perm.append_left im ?_
  exact cons_erase_perm hx
theorem erase_map {α β : Type} (f : α → β) : ∀ (l : List α) (k : Nat), (l.map f).eraseIdx k = (l.eraseIdx k).map f
  | [], k => by simp
  | a :: l, 0 => rfl
  | a :: l, k + 1 => congrArg (List.cons (f a)) (erase_map f l k)
theorem erase_len {k x : Nat} {rest : List Nat} (hx : rest[k]? = some x) : (rest.eraseIdx k).length + 1 = rest.length := by
  obtain ⟨hk, _⟩ := List.getElem?_eq_some_iff.mp hx
  rw [List.length_eraseIdx_of_lt hk]
  omega
end TW

namespace TW
/-! ### a ring as it grows -/
def pref (f : Nat → Nat) (p k : Nat) : List Nat := (List.range k).map fun j => it f j p
theorem pref_succ (f : Nat → Nat) (p k : Nat) : pref f p (k + 1) = pref f p k ++ [it f k p] := by
  unfold pref
  rw [List.range_succ, List.map_append]
  rfl
theorem pref_len (f : Nat → Nat) (p k : Nat) : (pref f p k).length = k := by unfold pref; rw [List.length_map, List.length_range]
theorem ring_pref (f : Nat → Nat) (n p : Nat) : ring f n p = pref f p (per f n p) := rfl
section
variable {f : Nat → Nat} {n : Nat} (P : PermF f n) {p : Nat} (hp : p < n)
include P hp
theorem back_iff {j : Nat} (hj : j < per f n p) : it f (j + 1) p = p ↔ j + 1 = per f n p := by
  obtain ⟨h0, e, _, hl⟩ := per_spec P hp
  constructor
  · intro h
    rcases Nat.lt_or_ge (j + 1) (per f n p) with c | c
    · exact absurd h (hl (j + 1) (by omega) c)
    · omega
  · intro h; rw [h]; exact e
/-- who is met so far -/
theorem seen_lead {s : List Nat} (hs : ∀ x, x ∈ s ↔ ∃ q, q < p ∧ x ∈ ring f n q) : p ∈ s ↔ lead f n p = false := by
  rw [hs, not_lead_iff P hp]
  constructor
  · rintro ⟨q, hq, hm⟩
    have hqn : q < n := by omega
    obtain ⟨r, hr, lr, h1, h2⟩ := leader_of P hp
    have h3 := ring_symm P hqn hm
    have := (lead_iff f n r).mp lr q (ring_trans P (by omega) h1 h3)
    exact ⟨r, by omega, lr, h1⟩
  · rintro ⟨q, hq, _, hm⟩
    exact ⟨q, hq, hm⟩
theorem seen_skip {s : List Nat} (hs : ∀ x, x ∈ s ↔ ∃ q, q < p ∧ x ∈ ring f n q) (hm : p ∈ s) (x : Nat) : x ∈ s ↔ ∃ q, q < p + 1 ∧ x ∈ ring f n q := by
  constructor
  · intro h
    obtain ⟨q, hq, h2⟩ := (hs x).mp h
    exact ⟨q, by omega, h2⟩
  · rintro ⟨q, hq, h2⟩
    by_cases c : q = p
    · subst c
      obtain ⟨r, hr, h3⟩ := (hs q).mp hm
      exact (hs x).mpr ⟨r, hr, ring_trans P (by omega) h3 h2⟩
    · exact (hs x).mpr ⟨q, by omega, h2⟩
end
theorem seen_more {f : Nat → Nat} {n p : Nat} {s : List Nat} (hs : ∀ x, x ∈ s ↔ ∃ q, q < p ∧ x ∈ ring f n q) (x : Nat) : x ∈ s ++ ring f n p ↔ ∃ q, q < p + 1 ∧ x ∈ ring f n q := by
  rw [List.mem_append]
  constructor
  · rintro (h | h)
    · obtain ⟨q, hq, h2⟩ := (hs x).mp h
      exact ⟨q, by omega, h2⟩
    · exact ⟨p, by omega, h⟩
  · rintro ⟨q, hq, h2⟩
    by_cases c : q = p
    · subst c; exact .inr h2
    · exact .inl ((hs x).mpr ⟨q, by omega, h2⟩)
theorem ringsTo_skip {f : Nat → Nat} {n i : Nat} (h : lead f n i = false) : ringsTo f n (i + 1) = ringsTo f n i := by
  rw [ringsTo_succ, if_neg (by rw [h]; simp), List.append_nil]
theorem ringsTo_stay {f : Nat → Nat} {n i : Nat} (h : f i = i) : ringsTo f n (i + 1) = ringsTo f n i := by
  rw [ringsTo_succ, if_neg (fun c => c.2 h), List.append_nil]
theorem ringsTo_more {f : Nat → Nat} {n i : Nat} (h : lead f n i = true) (h2 : f i ≠ i) : ringsTo f n (i + 1) = ringsTo f n i ++ [ring f n i] := by
  rw [ringsTo_succ, if_pos ⟨h, h2⟩]
theorem heads_len (f : Nat → Nat) (n i : Nat) : (heads f n i).length ≤ i := by
  unfold heads
  exact Nat.le_trans (List.length_filter_le _ _) (by rw [List.length_range]; exact Nat.le_refl _)
theorem ringsTo_len (f : Nat → Nat) (n i : Nat) : (ringsTo f n i).length ≤ i := by
  unfold ringsTo
  rw [List.length_map]
  exact heads_len f n i
end TW

namespace TW
/-! ### the pairs of rings in a row -/
def pairs (rs : List (List Nat)) : List (Nat × Nat) := (rs.map nxt).flatten
theorem nxt_fst (r : List Nat) : (nxt r).map Prod.fst = r := by
  unfold nxt
  exact List.map_fst_zip (by rw [rot_len]; exact Nat.le_refl _)
theorem nxt_len (r : List Nat) : (nxt r).length = r.length := by
  have := congrArg List.length (nxt_fst r)
  rw [List.length_map] at this
  exact this
theorem pairs_fst (rs : List (List Nat)) : (pairs rs).map Prod.fst = rs.flatten := by
  unfold pairs
  induction rs with
  | nil => rfl
  | cons r rs ih =>
    show ((nxt r) ++ (rs.map nxt).flatten).map Prod.fst = r ++ rs.flatten
    rw [List.map_append, nxt_fst, ih]
theorem pairs_snoc {rs : List (List Nat)} {i : Nat} {r : List Nat} (h : rs[i]? = some r) : pairs (rs.take (i + 1)) = pairs (rs.take i) ++ nxt r := by
  unfold pairs
  rw [List.take_add_one, h, List.map_append, List.flatten_append]
  show _ ++ [nxt r].flatten = _
  rw [List.flatten_singleton]
theorem pairs_take_len (rs : List (List Nat)) (i : Nat) : (pairs (rs.take i)).length ≤ rs.flatten.length := by
  have e := congrArg List.length (pairs_fst (rs.take i))
  rw [List.length_map] at e
  rw [e]
  have h : rs.flatten = (rs.take i).flatten ++ (rs.drop i).flatten := by rw [← List.flatten_append, List.take_append_drop]
  rw [h, List.length_append]
  omega
/-- the j-th place of the i-th ring is not among those before -/
theorem not_before {rs : List (List Nat)} (hnd : rs.flatten.Nodup) {i j x : Nat} {r : List Nat} (h : rs[i]? = some r) (hx : r[j]? = some x) : x ∉ (pairs (rs.take i) ++ (nxt r).take j).map Prod.fst := by
  rw [List.map_append, pairs_fst, List.map_take, nxt_fst]
  obtain ⟨hi, ei⟩ := List.getElem?_eq_some_iff.mp h
  obtain ⟨hj, ej⟩ := List.getElem?_eq_some_iff.mp hx
  have e1 : rs = rs.take i ++ r :: rs.drop (i + 1) := by
    rw [← ei, List.getElem_cons_drop, List.take_append_drop]
  have e2 : r = r.take j ++ x :: r.drop (j + 1) := by
    rw [← ej, List.getElem_cons_drop, List.take_append_drop]
  rw [e1, List.flatten_append, List.flatten_cons] at hnd
  obtain ⟨_, h2, h3⟩ := List.nodup_append.mp hnd
  intro hm
  rcases List.mem_append.mp hm with q | q
  · exact h3 x q x (List.mem_append_left _ (List.mem_of_getElem? hx)) rfl
  · have h4 := (List.nodup_append.mp h2).1
    rw [e2] at h4
    have h5 := (List.nodup_append.mp h4).2.2
    exact h5 x q x List.mem_cons_self rfl
theorem nxt_get {r : List Nat} {j x y : Nat} (hx : r[j]? = some x) (hy : (rot r)[j]? = some y) : (nxt r)[j]? = some (x, y) := by
  unfold nxt
  rw [List.getElem?_zip_eq_some]
  exact ⟨hx, hy⟩
theorem take_snoc {α : Type} {l : List α} {j : Nat} {x : α} (h : l[j]? = some x) : l.take (j + 1) = l.take j ++ [x] := by
  rw [List.take_add_one, h]
  rfl
theorem pairs_follow {f : Nat → Nat} : ∀ {rs : List (List Nat)}, (∀ r ∈ rs, Follows f r) → pairs rs = graph f rs.flatten
  | [], _ => rfl
  | r :: rs, h => by
    show nxt r ++ pairs rs = graph f (r ++ rs.flatten)
    rw [graph_append, pairs_follow fun q hq => h q (List.mem_cons_of_mem _ hq), h r List.mem_cons_self]
end TW

namespace TW
/-! ### sorted keys -/
theorem perm_nat {ys : List Int} {ks : List Nat} (h : ys.Perm (ks.map fun (k : Nat) => (k : Int))) (hs : ys.Pairwise (· ≤ ·)) (hn : ks.Nodup) :
    ∃ zs : List Nat, ys = zs.map (fun (k : Nat) => (k : Int)) ∧ zs.Perm ks ∧ zs.Pairwise (· < ·) := by
  have hnn : ∀ y ∈ ys, 0 ≤ y := fun y hy => by
    obtain ⟨k, _, rfl⟩ := List.mem_map.mp (h.mem_iff.mp hy)
    omega
  have e : ys = (ys.map Int.toNat).map (fun (k : Nat) => (k : Int)) := by
    rw [List.map_map]
    have : ∀ l : List Int, (∀ y ∈ l, 0 ≤ y) → l = l.map ((fun (k : Nat) => (k : Int)) ∘ Int.toNat) := by
      intro l
      induction l with
      | nil => intro _; rfl
      | cons a l ih =>
        intro hl
        have h1 := hl a List.mem_cons_self
        have h2 := ih fun y hy => hl y (List.mem_cons_of_mem _ hy)
        rw [List.map_cons, ← h2]
        congr 1
        show a = ((a.toNat : Nat) : Int)
        omega
    exact this ys hnn
  have hp : (ys.map Int.toNat).Perm ks := by
    have := h.map Int.toNat
    rw [List.map_map] at this
    have e2 : ks.map (Int.toNat ∘ fun (k : Nat) => (k : Int)) = ks := by
      rw [show (Int.toNat ∘ fun (k : Nat) => (k : Int)) = id from funext fun k => by show ((k : Int)).toNat = k; omega]
      exact List.map_id ks
    rw [e2] at this
    exact this
  refine ⟨ys.map Int.toNat, e, hp, ?_⟩
  have nd : (ys.map Int.toNat).Nodup := hp.nodup_iff.mpr hn
  rw [List.nodup_iff_pairwise_ne] at nd
  have hle : (ys.map Int.toNat).Pairwise (· ≤ ·) := by
    rw [List.pairwise_map]
    exact hs.imp fun h => Int.toNat_le_toNat h
  exact (hle.and nd).imp fun ⟨a, b⟩ => Nat.lt_of_le_of_ne a b
/-- a head's own test -/
def headB (f : Nat → Nat) (n p : Nat) : Bool := lead f n p && decide (f p ≠ p)
theorem headB_iff {f : Nat → Nat} {n p : Nat} : headB f n p = true ↔ lead f n p = true ∧ f p ≠ p := by
  unfold headB
  rw [Bool.and_eq_true, decide_eq_true_eq]
def ringsIn (f : Nat → Nat) (n : Nat) (zs : List Nat) : List (List Nat) := (zs.filter (headB f n)).map (ring f n)
theorem ringsIn_more {f : Nat → Nat} {n : Nat} {zs : List Nat} {i y : Nat} (h : zs[i]? = some y) (hb : headB f n y = true) : ringsIn f n (zs.take (i + 1)) = ringsIn f n (zs.take i) ++ [ring f n y] := by
  unfold ringsIn
  rw [take_snoc h, List.filter_append, List.map_append, List.filter_cons_of_pos hb]
  rfl
theorem ringsIn_stay {f : Nat → Nat} {n : Nat} {zs : List Nat} {i y : Nat} (h : zs[i]? = some y) (hb : headB f n y = false) : ringsIn f n (zs.take (i + 1)) = ringsIn f n (zs.take i) := by
  unfold ringsIn
  rw [take_snoc h, List.filter_append, List.filter_cons_of_neg (by rw [hb]; simp), List.filter_nil, List.append_nil]
theorem ringsIn_len (f : Nat → Nat) (n : Nat) (zs : List Nat) : (ringsIn f n zs).length ≤ zs.length := by
  unfold ringsIn
  rw [List.length_map]
  exact List.length_filter_le _ _
theorem ringsIn_all {f : Nat → Nat} {n : Nat} {zs : List Nat} (hs : zs.Pairwise (· < ·)) (hlt : ∀ y ∈ zs, y < n) (hall : ∀ x, x < n → f x ≠ x → x ∈ zs) : ringsIn f n zs = rings f n := by
  unfold ringsIn rings ringsTo
  exact congrArg (List.map (ring f n)) (heads_of hs hlt hall)
/-- who is marked when the places zs.take i have been looked at -/
def Marked (f : Nat → Nat) (n : Nat) (zs : List Nat) (x : Nat) : Prop := ∃ q ∈ zs, headB f n q = true ∧ x ∈ ring f n q ∧ x ≠ q
section
variable {f : Nat → Nat} {n : Nat} (P : PermF f n) {zs : List Nat} (hs : zs.Pairwise (· < ·)) (hlt : ∀ y ∈ zs, y < n) (hall : ∀ x, x < n → f x ≠ x → x ∈ zs) {i y : Nat} (hy : zs[i]? = some y)
include P hs hlt hall hy
theorem mem_take_of_lt {q : Nat} (hq : q ∈ zs) (hl : q < y) : q ∈ zs.take i := by
  obtain ⟨hi, ey⟩ := List.getElem?_eq_some_iff.mp hy
  obtain ⟨j, hj, e⟩ := List.mem_iff_getElem.mp hq
  rw [List.mem_take_iff_getElem]
  have hji : j < i := by
    rcases Nat.lt_trichotomy j i with c | c | c
    · exact c
    · subst c; rw [e] at ey; omega
    · have := (List.pairwise_iff_getElem.mp hs) i j hi hj c
      rw [ey, e] at this
      omega
  exact ⟨j, by omega, e⟩
theorem lt_of_mem_take {q : Nat} (hq : q ∈ zs.take i) : q < y := by
  obtain ⟨hi, ey⟩ := List.getElem?_eq_some_iff.mp hy
  obtain ⟨j, hj, e⟩ := List.mem_take_iff_getElem.mp hq
  have hj' : j < i := by omega
  have := (List.pairwise_iff_getElem.mp hs) j i (by omega) hi hj'
  rw [ey, e] at this
  exact this
/-- marked just if no leader -/
theorem marked_iff : Marked f n (zs.take i) y ↔ lead f n y = false := by
  have hyn : y < n := hlt y (List.mem_of_getElem? hy)
  constructor
  · rintro ⟨q, hq, hb, hm, hne⟩
    have hqn : q < n := hlt q (List.mem_of_mem_take hq)
    exact (not_lead_iff P hyn).mpr ⟨q, lt_of_mem_take P hs hlt hall hy hq, (headB_iff.mp hb).1, hm⟩
  · intro h
    obtain ⟨q, hq, lq, hm⟩ := (not_lead_iff P hyn).mp h
    have hqn : q < n := by omega
    have hfq : f q ≠ q := fun e => by
      have o := (per_one P hqn).mpr e
      have l : ring f n q = [q] := by unfold ring; rw [o]; rfl
      rw [l] at hm
      have := List.mem_singleton.mp hm
      omega
    exact ⟨q, mem_take_of_lt P hs hlt hall hy (hall q hqn hfq) hq, headB_iff.mpr ⟨lq, hfq⟩, hm, by omega⟩
end
theorem marked_stay {f : Nat → Nat} {n : Nat} {zs : List Nat} {i y : Nat} (hy : zs[i]? = some y) (hb : headB f n y = false) (x : Nat) : Marked f n (zs.take (i + 1)) x ↔ Marked f n (zs.take i) x := by
  unfold Marked
  rw [take_snoc hy]
  constructor
  · rintro ⟨q, hq, h1, h2⟩
    rcases List.mem_append.mp hq with h | h
    · exact ⟨q, h, h1, h2⟩
    · rw [List.mem_singleton.mp h, hb] at h1; cases h1
  · rintro ⟨q, hq, h⟩
    exact ⟨q, List.mem_append_left _ hq, h⟩
theorem marked_more {f : Nat → Nat} {n : Nat} {zs : List Nat} {i y : Nat} (hy : zs[i]? = some y) (hb : headB f n y = true) (x : Nat) : Marked f n (zs.take (i + 1)) x ↔ Marked f n (zs.take i) x ∨ (x ∈ ring f n y ∧ x ≠ y) := by
  unfold Marked
  rw [take_snoc hy]
  constructor
  · rintro ⟨q, hq, h1, h2⟩
    rcases List.mem_append.mp hq with h | h
    · exact .inl ⟨q, h, h1, h2⟩
    · rw [List.mem_singleton.mp h] at h2; exact .inr h2
  · rintro (⟨q, hq, h⟩ | h)
    · exact ⟨q, List.mem_append_left _ hq, h⟩
    · exact ⟨y, List.mem_append_right _ List.mem_cons_self, hb, h⟩
/-- the ring but its first place -/
theorem ring_tail {f : Nat → Nat} {n : Nat} (P : PermF f n) {p x : Nat} (hp : p < n) : (x ∈ ring f n p ∧ x ≠ p) ↔ ∃ k, 1 ≤ k ∧ k < per f n p ∧ x = it f k p := by
  constructor
  · rintro ⟨h, hne⟩
    obtain ⟨k, hk, e⟩ := List.mem_map.mp h
    have hk' := List.mem_range.mp hk
    have e : it f k p = x := e
    refine ⟨k, ?_, hk', e.symm⟩
    rcases Nat.eq_zero_or_pos k with c | c
    · subst c; exact absurd e.symm hne
    · exact c
  · rintro ⟨k, k1, k2, rfl⟩
    exact ⟨(mem_ring P hp).mpr ⟨k, rfl⟩, (per_spec P hp).2.2.2 k k1 k2⟩
end TW

namespace TW
/-! ### a list's own map -/
theorem isPerm_of_graph {n : Nat} {f : Nat → Nat} (P : PermF f n) : IsPerm ((List.range n).map f) := by
  refine ⟨?_, ?_⟩
  · rw [List.nodup_iff_pairwise_ne, List.pairwise_map]
    refine List.Pairwise.imp_of_mem ?_ (List.pairwise_lt_range (n := n))
    intro a b ha hb hab e
    have := P.inj a b (List.mem_range.mp ha) (List.mem_range.mp hb) e
    omega
  · intro x hx
    rw [List.length_map, List.length_range]
    obtain ⟨k, hk, rfl⟩ := List.mem_map.mp hx
    exact P.lt _ (List.mem_range.mp hk)
theorem rings_stay {f : Nat → Nat} {n : Nat} (P : PermF f n) {x : Nat} (hx : x < n) (h : x ∉ (rings f n).flatten) : f x = x := by
  by_cases c : f x = x
  · exact c
  · exact absurd (rings_all P hx c) h
theorem sum_le : ∀ {rs : List (List Nat)}, (rs.map List.length).sum = rs.flatten.length
  | [] => rfl
  | r :: rs => by rw [List.map_cons, List.sum_cons, List.flatten_cons, List.length_append, sum_le (rs := rs)]
theorem rings_total {f : Nat → Nat} {n : Nat} (P : PermF f n) : (rings f n).flatten.length ≤ n := nodup_le n _ (rings_nodup P) fun _ h => rings_lt P h
/-- the least common multiple of the lengths -/
def lcmTo (rs : List (List Nat)) : Nat := rs.foldl (fun l r => Nat.lcm l r.length) 1
theorem lcmTo_snoc {rs : List (List Nat)} {i : Nat} {r : List Nat} (h : rs[i]? = some r) : lcmTo (rs.take (i + 1)) = Nat.lcm (lcmTo (rs.take i)) r.length := by
  unfold lcmTo
  rw [take_snoc h, List.foldl_append]
  rfl
theorem lcm_le {a b : Nat} : Nat.lcm a b ≤ a * b := Nat.div_le_self _ _
theorem lcm_fold_le : ∀ (rs : List (List Nat)) (a : Nat), rs.foldl (fun l r => Nat.lcm l r.length) a ≤ a * 2 ^ (rs.map List.length).sum
  | [], a => by simp
  | r :: rs, a => by
    show rs.foldl _ (Nat.lcm a r.length) ≤ _
    refine Nat.le_trans (lcm_fold_le rs _) ?_
    rw [List.map_cons, List.sum_cons, Nat.pow_add, ← Nat.mul_assoc]
    exact Nat.mul_le_mul_right _ (Nat.le_trans lcm_le (Nat.mul_le_mul_left a (Nat.le_of_lt Nat.lt_two_pow_self)))
theorem lcmTo_lt {f : Nat → Nat} {n : Nat} (P : PermF f n) (hn : n ≤ 60) (i : Nat) : lcmTo ((rings f n).take i) < 2 ^ 64 := by
  refine Nat.lt_of_le_of_lt (lcm_fold_le _ 1) ?_
  have h1 : (((rings f n).take i).map List.length).sum ≤ n := by
    rw [sum_le]
    have h : (rings f n).flatten = ((rings f n).take i).flatten ++ ((rings f n).drop i).flatten := by rw [← List.flatten_append, List.take_append_drop]
    have := rings_total P
    rw [h, List.length_append] at this
    omega
  rw [Nat.one_mul]
  exact Nat.lt_of_le_of_lt (Nat.pow_le_pow_right (by decide) (Nat.le_trans h1 hn)) (by decide)
theorem lcmTo_pos {rs : List (List Nat)} (h : ∀ r ∈ rs, r ≠ []) : 0 < lcmTo rs := by
  unfold lcmTo
  have : ∀ (rs : List (List Nat)) (a : Nat), 0 < a → (∀ r ∈ rs, r ≠ []) → 0 < rs.foldl (fun l r => Nat.lcm l r.length) a := by
    intro rs
    induction rs with
    | nil => intro a ha _; exact ha
    | cons r rs ih =>
      intro a ha hr
      refine ih _ (Nat.lcm_pos ha ?_) fun q hq => hr q (List.mem_cons_of_mem _ hq)
      exact List.length_pos_iff.mpr (hr r List.mem_cons_self)
  exact this rs 1 (by decide) h
end TW

namespace TW
/-! ### swapping -/
theorem map_set (g : Nat → Nat) (n a v : Nat) : ((List.range n).map g).set a v = (List.range n).map fun x => if x = a then v else g x := by
  apply List.ext_getElem?
  intro i
  rw [List.getElem?_set, List.getElem?_map, List.getElem?_map, List.length_map, List.length_range]
  by_cases hi : i < n
  · rw [List.getElem?_range hi]
    by_cases c : a = i
    · subst c
      rw [if_pos rfl, if_pos hi]
      simp
    · rw [if_neg c]
      simp [Ne.symm c]
  · rw [List.getElem?_eq_none (show (List.range n).length ≤ i by rw [List.length_range]; omega)]
    by_cases c : a = i
    · rw [if_pos c, if_neg (by omega)]; rfl
    · rw [if_neg c]; rfl
/-- g swaps places; it stays where the drawn places from 2 i on are -/
structure Swp (mx : List Nat) (n i : Nat) (g : Nat → Nat) : Prop where
  lt : ∀ x, x < n → g x < n
  inv : ∀ x, x < n → g (g x) = x
  rest : ∀ x ∈ mx.drop (2 * i), g x = x
def swp (g : Nat → Nat) (a b : Nat) : Nat → Nat := fun x => if x = b then a else if x = a then b else g x
theorem Swp.start {mx : List Nat} {n : Nat} : Swp mx n 0 id := ⟨fun _ h => h, fun _ _ => rfl, fun _ _ => rfl⟩
theorem Swp.more {mx : List Nat} {n i a b : Nat} {g : Nat → Nat} (S : Swp mx n i g) (hm : IsPerm mx) (hl : mx.length = n) (ha : mx[2 * i]? = some a) (hb : mx[2 * i + 1]? = some b) : Swp mx n (i + 1) (swp g a b) := by
  obtain ⟨h1, e1⟩ := List.getElem?_eq_some_iff.mp ha
  obtain ⟨h2, e2⟩ := List.getElem?_eq_some_iff.mp hb
  have han : a < n := by rw [← hl]; exact hm.lt a (List.mem_of_getElem? ha)
  have hbn : b < n := by rw [← hl]; exact hm.lt b (List.mem_of_getElem? hb)
  have hab : a ≠ b := fun e => by
    rw [← e1, ← e2] at e
    have := (List.getElem_inj hm.nd).mp e
    omega
  have mem : ∀ j x, mx[j]? = some x → 2 * i ≤ j → x ∈ mx.drop (2 * i) := fun j x hx hj => by
    refine List.mem_of_getElem? (i := j - 2 * i) ?_
    rw [List.getElem?_drop, show 2 * i + (j - 2 * i) = j by omega]
    exact hx
  have ga : g a = a := S.rest a (mem _ _ ha (by omega))
  have gb : g b = b := S.rest b (mem _ _ hb (by omega))
  have gne : ∀ x, x < n → x ≠ a → x ≠ b → g x ≠ a ∧ g x ≠ b := fun x hx hxa hxb =>
    ⟨fun e => hxa (by have := S.inv x hx; rw [e, ga] at this; exact this.symm), fun e => hxb (by have := S.inv x hx; rw [e, gb] at this; exact this.symm)⟩
  refine ⟨fun x hx => ?_, fun x hx => ?_, fun x hx => ?_⟩
  · unfold swp
    split
    · exact han
    · split
      · exact hbn
      · exact S.lt x hx
  · unfold swp
    by_cases c1 : x = b
    · subst c1
      rw [if_pos rfl, if_neg hab, if_pos rfl]
    · rw [if_neg c1]
      by_cases c2 : x = a
      · subst c2
        rw [if_pos rfl, if_pos rfl]
      · obtain ⟨n1, n2⟩ := gne x hx c2 c1
        rw [if_neg c2, if_neg n2, if_neg n1]
        exact S.inv x hx
  · obtain ⟨j, hj⟩ := List.mem_iff_getElem?.mp hx
    rw [List.getElem?_drop] at hj
    have hx' : mx[2 * (i + 1) + j]? = some x := hj
    obtain ⟨h3, e3⟩ := List.getElem?_eq_some_iff.mp hx'
    have n1 : x ≠ a := fun e => by
      rw [← e3, ← e1] at e
      have := (List.getElem_inj hm.nd).mp e
      omega
    have n2 : x ≠ b := fun e => by
      rw [← e3, ← e2] at e
      have := (List.getElem_inj hm.nd).mp e
      omega
    unfold swp
    rw [if_neg n2, if_neg n1]
    exact S.rest x (mem _ _ hx' (by omega))
theorem Swp.perm {mx : List Nat} {n i : Nat} {g : Nat → Nat} (S : Swp mx n i g) : PermF g n := ⟨S.lt, fun x y hx hy e => by rw [← S.inv x hx, ← S.inv y hy, e]⟩
theorem swp_list (g : Nat → Nat) (n a b : Nat) : (((List.range n).map g).set a b).set b a = (List.range n).map (swp g a b) := by
  rw [map_set, map_set]
  rfl
/-- all places are led back -/
def swB (im : List Nat) : Bool := (List.range im.length).all fun p => decide (ap im (ap im p) = p)
def mvB (im : List Nat) : Bool := (List.range im.length).all fun p => decide (ap im p ≠ p)
/-! ### the least multiple -/
theorem lcm_of_le {a b k : Nat} (ha : 0 < a) (h : b ∣ k * a) (hk : 0 < k) (hmin : ∀ j, 0 < j → j < k → ¬ b ∣ j * a) : k * a = Nat.lcm a b := by
  have h1 : Nat.lcm a b ∣ k * a := Nat.lcm_dvd (Nat.dvd_mul_left a k) h
  obtain ⟨c, hc⟩ := Nat.dvd_lcm_left a b
  have hb : 0 < b := by
    rcases Nat.eq_zero_or_pos b with z | z
    · subst z
      have := Nat.eq_zero_of_zero_dvd h
      have := Nat.mul_pos hk ha
      omega
    · exact z
  have hl : 0 < Nat.lcm a b := Nat.lcm_pos ha hb
  have hcpos : 0 < c := by
    rcases Nat.eq_zero_or_pos c with z | z
    · rw [z, Nat.mul_zero] at hc; omega
    · exact z
  have hck : c ≤ k := by
    have := Nat.le_of_dvd (Nat.mul_pos hk ha) h1
    rw [hc, Nat.mul_comm a c] at this
    exact Nat.le_of_mul_le_mul_right this ha
  rcases Nat.lt_or_ge c k with z | z
  · exfalso
    refine hmin c hcpos z ?_
    rw [Nat.mul_comm, ← hc]
    exact Nat.dvd_lcm_right a b
  · have : k = c := by omega
    rw [this, Nat.mul_comm, ← hc]
end TW

namespace TW
/-! ### powers, of either sign -/
/-- g is f's way back below n -/
structure BackF (f g : Nat → Nat) (n : Nat) : Prop where
  lt : ∀ y, y < n → g y < n
  eq : ∀ y, y < n → f (g y) = y
def zit (f g : Nat → Nat) (k : Int) (x : Nat) : Nat := if 0 ≤ k then it f k.toNat x else it g k.natAbs x
theorem BackF.it_lt {f g : Nat → Nat} {n : Nat} (B : BackF f g n) (k : Nat) {x : Nat} (h : x < n) : it g k x < n := by
  induction k with
  | zero => exact h
  | succ k ih => exact B.lt _ ih
theorem BackF.it_eq {f g : Nat → Nat} {n : Nat} (B : BackF f g n) : ∀ (k : Nat) {x : Nat}, x < n → it f k (it g k x) = x
  | 0, x, _ => rfl
  | k + 1, x, h => by
    rw [it_succ' f]
    show it f k (f (g (it g k x))) = x
    rw [B.eq _ (B.it_lt k h)]
    exact B.it_eq k h
theorem zit_lt {f g : Nat → Nat} {n : Nat} (P : PermF f n) (B : BackF f g n) (k : Int) {x : Nat} (h : x < n) : zit f g k x < n := by
  unfold zit
  by_cases c : 0 ≤ k
  · rw [if_pos c]; exact P.it_lt _ h
  · rw [if_neg c]; exact B.it_lt _ h
theorem zit_perm {f g : Nat → Nat} {n : Nat} (P : PermF f n) (B : BackF f g n) (k : Int) : PermF (zit f g k) n where
  lt x h := zit_lt P B k h
  inj x y hx hy e := by
    unfold zit at e
    by_cases c : 0 ≤ k
    · rw [if_pos c, if_pos c] at e
      exact P.it_inj _ hx hy e
    · rw [if_neg c, if_neg c] at e
      have := congrArg (it f k.natAbs) e
      rw [B.it_eq _ hx, B.it_eq _ hy] at this
      exact this
theorem it_fix {f : Nat → Nat} {x : Nat} (h : f x = x) : ∀ k, it f k x = x
  | 0 => rfl
  | k + 1 => by show f (it f k x) = x; rw [it_fix h k, h]
theorem zit_fix {f g : Nat → Nat} {n : Nat} (P : PermF f n) (B : BackF f g n) (k : Int) {x : Nat} (hx : x < n) (h : f x = x) : zit f g k x = x := by
  unfold zit
  by_cases c : 0 ≤ k
  · rw [if_pos c, it_fix h]
  · rw [if_neg c]
    refine it_fix (P.inj _ _ (B.lt _ hx) hx ?_) _
    rw [B.eq _ hx, h]
/-- a place's way along its ring -/
theorem ring_shift {f g : Nat → Nat} {n p : Nat} (P : PermF f n) (B : BackF f g n) (hp : p < n) (k : Int) (a : Nat) : it f (((a : Int) + k) % (per f n p : Nat)).toNat p = zit f g k (it f a p) := by
  have L0 : 0 < per f n p := (per_spec P hp).1
  have nn := Int.emod_nonneg ((a : Int) + k) (show ((per f n p : Nat) : Int) ≠ 0 by omega)
  unfold zit
  by_cases c : 0 ≤ k
  · rw [if_pos c, ← it_add]
    rw [per_mod P hp (k.toNat + a)]
    congr 1
    have e : (a : Int) + k = ((k.toNat + a : Nat) : Int) := by omega
    rw [e, ← Int.natCast_emod, Int.toNat_natCast]
  · rw [if_neg c]
    refine P.it_inj k.natAbs (P.it_lt _ hp) (B.it_lt _ (P.it_lt _ hp)) ?_
    rw [B.it_eq _ (P.it_lt _ hp), ← it_add, per_mod P hp, per_mod P hp a]
    congr 1
    have e1 : ((k.natAbs + (((a : Int) + k) % (per f n p : Nat)).toNat : Nat) : Int) = k.natAbs + ((a : Int) + k) % (per f n p : Nat) := by omega
    have e2 : (((k.natAbs + (((a : Int) + k) % (per f n p : Nat)).toNat) % per f n p : Nat) : Int) = ((a % per f n p : Nat) : Int) := by
      rw [Int.natCast_emod, e1, Int.natCast_emod, Int.add_emod_emod]
      congr 1
      omega
    exact Int.ofNat.inj e2
/-! ### the list of the way back -/
def backL (im : List Nat) : List Nat := (List.range im.length).map fun y => im.idxOf y
theorem perm_mem {im : List Nat} (h : IsPerm im) {y : Nat} (hy : y < im.length) : y ∈ im := by
  apply Classical.byContradiction
  intro hn
  have : (y :: im).Nodup := List.nodup_cons.mpr ⟨hn, h.nd⟩
  have := nodup_le im.length (y :: im) this (fun x hx => by
    rcases List.mem_cons.mp hx with e | e
    · rw [e]; exact hy
    · exact h.lt _ e)
  rw [List.length_cons] at this
  omega
theorem ap_map {n : Nat} {f : Nat → Nat} {x : Nat} (h : x < n) : ap ((List.range n).map f) x = f x := by
  unfold ap
  rw [List.getD_eq_getElem?_getD, List.getElem?_map, List.getElem?_range h]
  rfl
theorem back_back {im : List Nat} (h : IsPerm im) : BackF (ap im) (ap (backL im)) im.length where
  lt y hy := by
    unfold backL
    rw [ap_map hy]
    exact List.idxOf_lt_length_of_mem (perm_mem h hy)
  eq y hy := by
    unfold backL
    rw [ap_map hy]
    have hl := List.idxOf_lt_length_of_mem (perm_mem h hy)
    have := ap_get hl
    rw [List.getElem?_eq_getElem hl, List.getElem_idxOf] at this
    exact (Option.some.inj this).symm
theorem backL_len (im : List Nat) : (backL im).length = im.length := by unfold backL; rw [List.length_map, List.length_range]
theorem back_unique {f g h : Nat → Nat} {n : Nat} (P : PermF f n) (B : BackF f g n) (hl : ∀ y, y < n → h y < n) (he : ∀ y, y < n → f (h y) = y) {y : Nat} (hy : y < n) : h y = g y :=
  P.inj _ _ (hl y hy) (B.lt y hy) (by rw [he y hy, B.eq y hy])
/-- one behind the other -/
def behind (im jm : List Nat) : List Nat := im.map (ap jm)
theorem behind_len (im jm : List Nat) : (behind im jm).length = im.length := List.length_map _
theorem behind_eq (im jm : List Nat) : behind im jm = (List.range im.length).map fun x => ap jm (ap im x) := by
  have e := im_eq im
  unfold behind
  conv => lhs; rw [← e]
  rw [List.map_map]
  rfl
theorem behind_perm {im jm : List Nat} (h : IsPerm im) (j : IsPerm jm) (e : jm.length = im.length) : IsPerm (behind im jm) := by
  rw [behind_eq]
  refine isPerm_of_graph ⟨fun x hx => ?_, fun x y hx hy z => ?_⟩
  · have := j.perm.lt _ (show ap im x < jm.length by rw [e]; exact h.perm.lt x hx)
    rw [e] at this
    exact this
  · exact h.perm.inj _ _ hx hy (j.perm.inj _ _ (by rw [e]; exact h.perm.lt x hx) (by rw [e]; exact h.perm.lt y hy) z)
/-- the power of a map -/
def timesL (im : List Nat) (k : Int) : List Nat := (List.range im.length).map (zit (ap im) (ap (backL im)) k)
theorem timesL_len (im : List Nat) (k : Int) : (timesL im k).length = im.length := by unfold timesL; rw [List.length_map, List.length_range]
theorem timesL_perm {im : List Nat} (h : IsPerm im) (k : Int) : IsPerm (timesL im k) := isPerm_of_graph (zit_perm h.perm (back_back h) k)
theorem timesL_zero (im : List Nat) : timesL im 0 = List.range im.length := by
  unfold timesL zit
  apply List.ext_getElem?
  intro i
  rw [List.getElem?_map]
  by_cases c : i < im.length
  · rw [List.getElem?_range c]; rfl
  · rw [List.getElem?_eq_none (by rw [List.length_range]; omega)]; rfl
theorem timesL_one (im : List Nat) : timesL im 1 = im := by
  have e := im_eq im
  conv => rhs; rw [← e]
  rfl
theorem timesL_back {im : List Nat} (h : IsPerm im) : timesL im (-1) = backL im := by
  have e := im_eq (backL im)
  rw [backL_len] at e
  conv => rhs; rw [← e]
  rfl
end TW

namespace TW
/-! ### rings begun elsewhere -/
def rotl (r : List Nat) (t : Nat) : List Nat := r.drop t ++ r.take t
theorem rotl_len (r : List Nat) (t : Nat) : (rotl r t).length = r.length := by
  unfold rotl
  rw [List.length_append, List.length_drop, List.length_take]
  omega
theorem rotl_get {r : List Nat} {t i : Nat} (ht : t ≤ r.length) (hi : i < r.length) : (rotl r t)[i]? = r[(i + t) % r.length]? := by
  unfold rotl
  by_cases c : i + t < r.length
  · rw [List.getElem?_append_left (by rw [List.length_drop]; omega), List.getElem?_drop, Nat.mod_eq_of_lt c, Nat.add_comm]
  · rw [List.getElem?_append_right (by rw [List.length_drop]; omega), List.length_drop, List.getElem?_take_of_lt (by omega)]
    have e : (i + t) % r.length = i + t - r.length := by
      rw [Nat.mod_eq_sub_mod (by omega), Nat.mod_eq_of_lt (by omega)]
    rw [e]
    congr 1
    omega
theorem follows_rotl {f : Nat → Nat} {r : List Nat} {t : Nat} (h : Follows f r) (ht : t ≤ r.length) : Follows f (rotl r t) := by
  have h' := follows_iff.mp h
  refine follows_iff.mpr ?_
  show rotl (rotl r t) 1 = _
  apply List.ext_getElem?
  intro i
  by_cases c : i < r.length
  · have L : 0 < r.length := by omega
    have a : (rotl (rotl r t) 1)[i]? = r[((i + t) % r.length + 1) % r.length]? := by
      rw [rotl_get (by rw [rotl_len]; omega) (by rw [rotl_len]; exact c), rotl_len, rotl_get ht (Nat.mod_lt _ L)]
      congr 1
      rw [Nat.mod_add_mod, Nat.mod_add_mod]
      congr 1
      omega
    have b := congrArg (fun l => l[(i + t) % r.length]?) h'
    have b' : (rotl r 1)[(i + t) % r.length]? = (r.map f)[(i + t) % r.length]? := b
    rw [rotl_get (by omega) (Nat.mod_lt _ L)] at b'
    rw [a, b', List.getElem?_map, List.getElem?_map, rotl_get ht c]
  · rw [List.getElem?_eq_none (by rw [rotl_len, rotl_len]; omega), List.getElem?_eq_none (by rw [List.length_map, rotl_len]; omega)]
theorem rotl_perm (r : List Nat) (t : Nat) : (rotl r t).Perm r := by
  unfold rotl
  have : (r.drop t ++ r.take t).Perm (r.take t ++ r.drop t) := List.perm_append_comm
  rw [List.take_append_drop] at this
  exact this
theorem flatten_perm {rs ss : List (List Nat)} (h : rs.length = ss.length) (hp : ∀ (i : Nat) (r s : List Nat), rs[i]? = some r → ss[i]? = some s → r.Perm s) : rs.flatten.Perm ss.flatten := by
  induction rs generalizing ss with
  | nil =>
    cases ss with
    | nil => exact .nil
    | cons s ss => cases h
  | cons r rs ih =>
    cases ss with
    | nil => cases h
    | cons s ss =>
      rw [List.flatten_cons, List.flatten_cons]
      refine (hp 0 r s rfl rfl).append (ih (by simpa using h) fun i a b h1 h2 => hp (i + 1) a b ?_ ?_)
      · rw [List.getElem?_cons_succ]; exact h1
      · rw [List.getElem?_cons_succ]; exact h2
/-- the rings of one place -/
def singles (f : Nat → Nat) (n : Nat) : List (List Nat) := ((List.range n).filter fun x => decide (f x = x)).map fun x => [x]
theorem singles_flat (f : Nat → Nat) (n : Nat) : (singles f n).flatten = (List.range n).filter fun x => decide (f x = x) := by
  unfold singles
  generalize (List.range n).filter (fun x => decide (f x = x)) = l
  induction l with
  | nil => rfl
  | cons x l ih => rw [List.map_cons, List.flatten_cons, ih]; rfl
theorem follows_single {f : Nat → Nat} {x : Nat} (h : f x = x) : Follows f [x] := by
  refine follows_iff.mpr ?_
  show [x] = [f x]
  rw [h]
theorem mem_rings_moves {f : Nat → Nat} {n x : Nat} (P : PermF f n) (h : x ∈ (rings f n).flatten) : f x ≠ x := by
  obtain ⟨r, hr, hx⟩ := List.mem_flatten.mp h
  obtain ⟨p, hp, rfl⟩ := List.mem_map.mp hr
  have hp' := mem_heads.mp hp
  obtain ⟨k, hk⟩ := (mem_ring P hp'.1).mp hx
  intro e
  have h2 : it f k (f p) = it f k p := by rw [← it_succ' f, show it f (k + 1) p = f (it f k p) from rfl, hk, e]
  exact hp'.2.2 (P.it_inj k (P.lt _ hp'.1) hp'.1 h2)
end TW

namespace TW
/-! ### a map moved up -/
def shf (f : Nat → Nat) (k x : Nat) : Nat := if x < k then x else f (x - k) + k
theorem shf_up (f : Nat → Nat) (k x : Nat) : shf f k (x + k) = f x + k := by
  unfold shf
  rw [if_neg (by omega), Nat.add_sub_cancel]
theorem shf_perm {f : Nat → Nat} {n k : Nat} (P : PermF f n) : PermF (shf f k) (n + k) where
  lt x hx := by
    unfold shf
    split
    · exact hx
    · have := P.lt (x - k) (by omega)
      omega
  inj x y hx hy e := by
    unfold shf at e
    split at e <;> split at e
    · exact e
    · omega
    · omega
    · have := P.inj (x - k) (y - k) (by omega) (by omega) (by omega)
      omega
theorem shf_it (f : Nat → Nat) (k j x : Nat) : it (shf f k) j (x + k) = it f j x + k := by
  induction j with
  | zero => rfl
  | succ j ih => show shf f k (it (shf f k) j (x + k)) = f (it f j x) + k; rw [ih, shf_up]
theorem shf_per {f : Nat → Nat} {n k p : Nat} (P : PermF f n) (hp : p < n) : per (shf f k) (n + k) (p + k) = per f n p := by
  obtain ⟨a0, a1, _, a3⟩ := per_spec P hp
  obtain ⟨b0, b1, _, b3⟩ := per_spec (shf_perm (k := k) P) (p := p + k) (by omega)
  rw [shf_it] at b1
  rcases Nat.lt_trichotomy (per (shf f k) (n + k) (p + k)) (per f n p) with h | h | h
  · exact absurd (by omega) (a3 _ b0 h)
  · exact h
  · exact absurd (by rw [shf_it, a1]) (b3 _ a0 h)
def upL (k : Nat) (r : List Nat) : List Nat := r.map fun x => x + k
theorem shf_ring {f : Nat → Nat} {n k p : Nat} (P : PermF f n) (hp : p < n) : ring (shf f k) (n + k) (p + k) = upL k (ring f n p) := by
  unfold ring upL
  rw [shf_per P hp, List.map_map]
  exact List.map_congr_left fun j _ => shf_it f k j p
theorem shf_lead {f : Nat → Nat} {n k p : Nat} (P : PermF f n) (hp : p < n) : lead (shf f k) (n + k) (p + k) = lead f n p := by
  unfold lead
  rw [shf_ring P hp]
  unfold upL
  rw [List.all_map]
  congr 1
  funext x
  show decide (p + k ≤ x + k) = decide (p ≤ x)
  exact decide_eq_decide.mpr (by omega)
theorem shf_ringsTo {f : Nat → Nat} {n k : Nat} (P : PermF f n) (i : Nat) (hi : i ≤ n) : ringsTo (shf f k) (n + k) (i + k) = (ringsTo f n i).map (upL k) := by
  induction i with
  | zero =>
    have low : ∀ j, j ≤ k → ringsTo (shf f k) (n + k) j = [] := by
      intro j
      induction j with
      | zero => intro _; rfl
      | succ j ih =>
        intro hj
        rw [ringsTo_succ, ih (by omega), if_neg]
        · rfl
        · rintro ⟨_, h⟩
          exact h (by unfold shf; rw [if_pos (by omega)])
    rw [Nat.zero_add, low k (Nat.le_refl _)]
    rfl
  | succ i ih =>
    rw [show i + 1 + k = (i + k) + 1 by omega, ringsTo_succ, ih (by omega), ringsTo_succ, shf_lead P (by omega), shf_up, List.map_append, shf_ring P (by omega)]
    congr 1
    by_cases c : lead f n i = true ∧ f i ≠ i
    · rw [if_pos c, if_pos ⟨c.1, fun h => c.2 (by omega)⟩]
      rfl
    · rw [if_neg c, if_neg (fun h => c ⟨h.1, fun z => h.2 (by rw [z])⟩)]
      rfl
theorem shf_rings {f : Nat → Nat} {n k : Nat} (P : PermF f n) : rings (shf f k) (n + k) = (rings f n).map (upL k) := shf_ringsTo P n (Nat.le_refl _)
end TW

namespace TW
open PySem PySem.Spec PyProof.Rows L2
/-! ### dict(enumerate(list)) -/
/-- the places from k on, to the values -/
def enumKV : Nat → List V → List (Key × V)
  | _, [] => []
  | k, x :: xs => (Sum.inl (k : Int), x) :: enumKV (k + 1) xs
theorem enumKV_get : ∀ (xs : List V) (k i : Nat), (enumKV k xs)[i]? = (xs[i]?).map fun x => (Sum.inl ((k + i : Nat) : Int), x)
  | [], k, i => by simp [enumKV]
  | x :: xs, k, 0 => by simp [enumKV]
  | x :: xs, k, i + 1 => by
    show (enumKV (k + 1) xs)[i]? = _
    rw [enumKV_get xs (k + 1) i, show k + 1 + i = k + (i + 1) by omega]
    rfl
def enumKW : Nat → List Value → List (Key × Value)
  | _, [] => []
  | k, x :: xs => (Sum.inl (k : Int), x) :: enumKW (k + 1) xs
theorem enumKW_len : ∀ (xs : List Value) (k : Nat), (enumKW k xs).length = xs.length
  | [], _ => rfl
  | _ :: xs, k => congrArg Nat.succ (enumKW_len xs (k + 1))
theorem enumKW_get : ∀ (xs : List Value) (k i : Nat), (enumKW k xs)[i]? = (xs[i]?).map fun x => (Sum.inl ((k + i : Nat) : Int), x)
  | [], k, i => by simp [enumKW]
  | x :: xs, k, 0 => by simp [enumKW]
  | x :: xs, k, i + 1 => by
    show (enumKW (k + 1) xs)[i]? = _
    rw [enumKW_get xs (k + 1) i, show k + 1 + i = k + (i + 1) by omega]
    rfl
theorem enumK_rel : ∀ {xs : List V} {us : List Value} (k : Nat), Vals xs us → KV (enumKV k xs) (enumKW k us)
  | _, _, _, .nil => .nil
  | _, _, k, .cons r t => .cons ⟨rfl, r⟩ (enumK_rel (k + 1) t)
section
variable {X : Cx}
def tDictEnum (K : PySem.W.Frag) (ta : TE) : TE := fun σ H Q => ta σ H fun x H1 => ∃ a xs, x = .ref a ∧ SqL K H1 a xs ∧ ∀ p, H1 p = none → Q (.ref p) (upd H1 p (.dK (mergeK [] (enumKV 0 xs))))
theorem pe_dictEnum {e : Expr} {ta : TE} {p p2 pos pos2 : Pos} (hc : X.calm = true) (hg : Gl X "dict") (hm : X.mg "dict" = none) (hg2 : Gl X "enumerate") (hm2 : X.mg "enumerate" = none) (ha : PE X e ta)
    (n1 : starEach [.Call (.Name "enumerate" p2) [e] [] pos2] X.env = (false, eval (.Call (.Name "enumerate" p2) [e] [] pos2) X.env) :: starEach [] X.env := by rfl)
    (n2 : starEach [e] X.env = (false, eval e X.env) :: starEach [] X.env := by rfl) :
    PE X (.Call (.Name "dict" p) [.Call (.Name "enumerate" p2) [e] [] pos2] [] pos) (tDictEnum X.K ta) := by
  refine ⟨fun pins s σ H Q I h => ?_⟩
  refine Call_ (ld_blt I hg hm boot_dict (PyProof.Rows.callWith_type1 (args_cons ?_ n1) n1))
  refine Call_ (ld_blt I hg2 hm2 boot_enumerate (PyProof.Rows.callWith_type1 (one_arg ha I h (fun v s1 x H1 I1 r1 q1 => ?_) n2) n2))
  obtain ⟨a, xs, ex, hq, q⟩ := q1
  subst ex
  cases r1
  obtain ⟨its, rv, pl, hz⟩ := I1.list hq
  have hal : a < s1.heap.objs.size := by obtain ⟨_, q, _⟩ := pl.isList; exact Heap.lt_size q
  refine call_enumerate_list pl.isList fun h' he hit hsz hk => args_nil ?_
  have P := PySem.PairArg.enumerate (prog := X.prog) (w := X.w) (s1.heap.objs.size + 1) s1.heap.objs.size a (Nat.succ_ne_self _) (Nat.ne_of_lt (Nat.lt_succ_of_lt hal)) (Nat.ne_of_lt hal) its.toArray
  have I2 : Inv X pins σ H1 { s1 with heap := h' } := I1.kept (t' := s1.toks) hk
  refine PySem.call_dict_pairs (s := { s1 with heap := h' }) (knd := mixKind X.prog X.w) (kvs := enumKW 0 its) P (I.ok.hd hc) ⟨⟨_, he⟩, hit, pl.isList.at fun o q => hk _ o q⟩ ⟨?_, ?_⟩ ?_ ?_
  · rw [enumKW_len]; simp
  · rintro i key v ⟨⟨t, rfl⟩, hv⟩
    refine ⟨Sum.inl (i : Int), ?_, mixKind_int X.prog X.w _ _⟩
    rw [enumKW_get]
    have : its[i]? = some v := by simpa using hv
    rw [this, Nat.zero_add]
    rfl
  · simpa [← rv.length] using hz
  · intro h2 tk hd hk2
    have hbig : (h'.objs.size == sysModules) = false := beq_eq_false_iff_ne.mpr (Nat.ne_of_gt I2.big)
    have hlen : (mergeK [] (enumKV 0 xs)).length ≤ sizeLine := by
      refine Nat.le_trans (length_mergeK _ []) ?_
      rw [List.length_nil, Nat.zero_add, (enumK_rel 0 rv).length, enumKW_len, ← rv.length]
      exact hz
    have keep : ∀ b u, s1.heap.get? b = some u → h2.get? b = some u := fun b u e => by
      refine hk2 b u (fun hb => ?_) (hk b u e)
      have hbl := Heap.lt_size e
      have : b = s1.heap.objs.size + 1 ∨ b = s1.heap.objs.size := by simpa using hb
      rcases this with e' | e'
      · rw [e'] at hbl; exact absurd hbl (Nat.not_lt.mpr (Nat.le_succ _))
      · rw [e'] at hbl; exact absurd hbl (Nat.lt_irrefl _)
    have dk : ObjOk X.prog X.w (upd H1 h'.objs.size (.dK (mergeK [] (enumKV 0 xs)))) h2 h'.objs.size (.dK (mergeK [] (enumKV 0 xs))) :=
      ⟨hlen, hbig, merged [] (enumKW 0 its), KV.merge (enumK_rel 0 rv) .nil, hd⟩
    refine ⟨.ref h'.objs.size, _, I1.laid (t' := tk) keep (by omega) dk, rfl, q _ (I2.hok.fresh (Nat.le_refl _))⟩
end
end TW

namespace TW
open PySem PySem.Spec PyProof.Rows L2
section
variable {X : Cx}
/-- lcm(a, b) -/
def rLcm : List V → Hp → VK → Prop := fun vs H Q => ∃ a b : Nat, vs = [.int (a : Int), .int (b : Int)] ∧ a < 2 ^ 64 ∧ b < 2 ^ 64 ∧ Q (.int ((Nat.lcm a b : Nat) : Int)) H
theorem cr_lcm : CallR X (.builtin "math.lcm") rLcm := by
  intro pins s σ H vs us Q I r h
  obtain ⟨a, b, rfl, ha, hb, q⟩ := h
  obtain ⟨t, u, rfl⟩ := Vals.int2 r
  have e : (((Nat.lcm 1 (a : Int).natAbs).lcm (b : Int).natAbs : Nat) : Int) = ((Nat.lcm a b : Nat) : Int) := by
    rw [Int.natAbs_natCast, Int.natAbs_natCast, Nat.lcm_one_left]
  refine PySem.W.mg_lcm_v (by rw [Int.natAbs_natCast]; exact ha) (by rw [Int.natAbs_natCast]; exact hb) e ?_ ⟨.int _, H, I.tok _, ⟨_, rfl⟩, q⟩
  rw [Int.natAbs_natCast]
  have h1 : Nat.lcm a b < 2 ^ 128 := by
    refine Nat.lt_of_le_of_lt (Nat.div_le_self _ _) ?_
    calc a * b ≤ a * 2 ^ 64 := Nat.mul_le_mul_left _ (Nat.le_of_lt hb)
      _ < 2 ^ 64 * 2 ^ 64 := by omega
      _ = 2 ^ 128 := by decide
  rw [bitsLine_eq]
  by_cases z : Nat.lcm a b = 0
  · rw [z]; decide
  · exact Nat.lt_trans ((Nat.log2_lt z).mpr h1) (by decide)
end
/-! ### defs, methods, classes with their promises -/
section
variable (P : Program) (w : World) (K : PySem.W.Frag) (mg : Str → Option Value) (base : Heap)
/-- the def that the module's name x holds keeps sp; dvs: the defaults that fill up -/
def DefOk (CX : CXT) (k : Nat) (x : Str) (ps : List Str) (dvs : List V) (sp : Sp) : Prop :=
  ∃ (f : Addr) (fd : FuncData) (ds : List Value), mg x = some (.ref f) ∧ PySem.W.keepIn K (.ref f) = true ∧ Binds K fd ps ds ∧ Vals dvs ds ∧ FnOk P w K mg base CX k f fd ps sp
/-- the method m of the class at C -/
def MethOk (CX : CXT) (k : Nat) (C : Addr) (m : Str) (ps : List Str) (dvs : List V) (sp : Sp) : Prop :=
  ∃ (f : Addr) (fd : FuncData) (ds : List Value), Meth K C m f ∧ Binds K fd ps ds ∧ Vals dvs ds ∧ FnOk P w K mg base CX k f fd ps sp
/-- the class at C, by the module's name x, its __init__ -/
def MakeOk (CX : CXT) (k : Nat) (C : Addr) (x : Str) (ps : List Str) (dvs : List V) (sp : Sp) : Prop :=
  mg x = some (.ref C) ∧ ∃ (f : Addr) (fd : FuncData) (ds : List Value), Mk K C f ∧ Binds K fd ps ds ∧ Vals dvs ds ∧ FnOk P w K mg base CX k f fd ps sp
end
section
variable {X : Cx} {CX : CXT} {k k' : Nat} {ps : List Str} {sp : Sp} {dvs : List V} {E : XK} {x m : Str} {p pos apos : Pos} {e o : Expr} {es : List Expr} {ta : TE} {t : TA} {C : Addr}
theorem pe_d (D : DefOk X.prog X.w X.K X.mg X.base CX k x ps dvs sp) (hr : Room k' X.A) (hx : Passes CX X E) (ha : PA X (e :: es) t) (hk : k ≤ k' := by decide) (hg : Gl X x := by rfl) (hdb : (x == ("__debug__" : Str)) = false := by decide)
    (he : starEach (e :: es) X.env = (false, eval e X.env) :: starEach es X.env := by rfl) (hpl : (backTo pos (starEach es X.env)).any (·.1) = false := by rfl) :
    PE X (.Call (.Name x p) (e :: es) [] pos) (tCall sp dvs E t) := by
  obtain ⟨f, fd, ds, hm, kp, hb, hd, F⟩ := D
  exact pe_call F (hr.mono hk) hg hm kp hb hd hx ha hdb he hpl
theorem pe_m {pl : Sem Bool} (D : MethOk X.prog X.w X.K X.mg X.base CX k C m ps dvs sp) (c : Cls X.K C) (hr : Room k' X.A) (hx : Passes CX X E) (he : PE X o ta) (ha : PA X (e :: es) t) (hk : k ≤ k' := by decide)
    (hst : starEach (e :: es) X.env = (false, eval e X.env) :: starEach es X.env := by rfl) (hpl : (backTo pos (starEach es X.env)).any (·.1) = false := by rfl)
    (ht : eval (.Call (.Attribute o m apos) (e :: es) [] pos) X.env = (do
      let ov ← eval o X.env
      standAt apos.atName
      let (f, first) ← holding [ov] (getMethod ov m pl)
      callWith pos f first (backTo pos (starEach (e :: es) X.env)) (backToKw pos (keywordEach [] X.env))) := by rfl) :
    PE X (.Call (.Attribute o m apos) (e :: es) [] pos) (tMeth C m sp dvs E ta t) := by
  obtain ⟨f, fd, ds, hm, hb, hd, F⟩ := D
  exact pe_meth he c hm F (hr.mono hk) hb hd hx ha hst hpl ht
theorem pe_m0 {pl : Sem Bool} (D : MethOk X.prog X.w X.K X.mg X.base CX k C m ps dvs sp) (c : Cls X.K C) (hr : Room k' X.A) (hx : Passes CX X E) (he : PE X o ta) (hk : k ≤ k' := by decide)
    (ht : eval (.Call (.Attribute o m apos) [] [] pos) X.env = (do
      let ov ← eval o X.env
      standAt apos.atName
      let (f, first) ← holding [ov] (getMethod ov m pl)
      callWith pos f first (backTo pos (starEach [] X.env)) (backToKw pos (keywordEach [] X.env))) := by rfl) :
    PE X (.Call (.Attribute o m apos) [] [] pos) (tMeth C m sp dvs E ta tNil) := by
  obtain ⟨f, fd, ds, hm, hb, hd, F⟩ := D
  exact pe_meth0 he c hm F (hr.mono hk) hb hd hx ht
theorem pe_mk' (D : MakeOk X.prog X.w X.K X.mg X.base CX k C x ps dvs sp) (hr : Room k' X.A) (hx : Passes CX X E) (ha : PA X (e :: es) t) (hk : k + 1 ≤ k' := by decide) (hg : Gl X x := by rfl) (hdb : (x == ("__debug__" : Str)) = false := by decide)
    (he : starEach (e :: es) X.env = (false, eval e X.env) :: starEach es X.env := by rfl) (hpl : (backTo pos (starEach es X.env)).any (·.1) = false := by rfl) :
    PE X (.Call (.Name x p) (e :: es) [] pos) (tMake C sp dvs E t) := by
  obtain ⟨hm, f, fd, ds, M, hb, hd, F⟩ := D
  exact pe_make M F (hr.mono hk) hg hm hb hd hx ha hdb he hpl
end
end TW

namespace TW
open PySem PySem.Spec PyProof.Rows L2
/-! ### errors with one attribute, held as values -/
section
variable (P : Program) (w : World) (K : PySem.W.Frag) (mg : Str → Option Value) (base : Heap)
/-- what __init__ of such a class does: the attribute f is the second value -/
def spErr (C : Addr) (f : Str) : Sp := fun vs H Q _ => ∃ (a : Addr) (v : V), vs = [.ref a, v] ∧ H a = some (exo a C none) ∧ ∀ d, H d = none → d ≠ a → Q .non (upd (upd H d (exd d [(f, v)])) a (exo a C (some d)))
structure ErrC (C : Addr) : Prop where
  oex : OexC K C
  xf : XfC K C
  kc : ExcC K C
/-- the error class at C, by the module's name x; its attribute f -/
def ErrOk (CX : CXT) (k : Nat) (C : Addr) (x f p : Str) : Prop :=
  ErrC K C ∧ mg x = some (.ref C) ∧ ∃ (fI : Addr) (fd : FuncData), PySem.W.findIn K (.ref C) "__init__" = some (some (.ref fI)) ∧ PySem.W.typeIn K (.ref fI) = some (.type "function") ∧ Binds K fd ["self", p] [] ∧
    FnOk P w K mg base CX k fI fd ["self", p] (spErr C f)
end
section
variable {X : Cx} {CX : CXT} {k k' : Nat} {C : Addr} {x f q : Str} {e : Expr} {te : TE} {p pos : Pos}
def tErr (C : Addr) (f : Str) (te : TE) : TE := fun σ H Q => te σ H fun v H1 => ∀ (a d : Addr) (H' : Hp), Same H1 H' → H1 a = none → H1 d = none → H' a = some (exo a C (some d)) → H' d = some (exd d [(f, v)]) → Q (.ref a) H'
theorem pe_err (D : ErrOk X.prog X.w X.K X.mg X.base CX k C x f q) (hr : Room k' X.A) (hx : Passes CX X (fun _ _ _ => False)) (he : PE X e te) (hk : k + 1 ≤ k' := by decide) (hg : Gl X x := by rfl)
    (hdb : (x == ("__debug__" : Str)) = false := by decide) (hs : starEach [e] X.env = (false, eval e X.env) :: starEach [] X.env := by rfl) (hpl : (backTo pos (starEach [] X.env)).any (·.1) = false := by rfl) :
    PE X (.Call (.Name x p) [e] [] pos) (tErr C f te) := by
  obtain ⟨T, hm, fI, fd, iC, tI, hb, F1⟩ := D
  refine ⟨fun pins s σ H Q I h => ?_⟩
  obtain ⟨nm, q, N, bs, bm, sn, sub, ab, col, dd, k0, k1, k2, k3, k5, hC, hbm⟩ := T.oex.cls
  have hr1 := hr.mono hk
  refine wpAny_Call_Name_kw (ld_glob I hg hm ?_ hdb)
  refine PySem.W.callWith_K (h₀ := X.base) I.ok.mod.kin T.oex.kC ?_ hs hpl
  rw [hs]
  show wpAny _ _ (spliced ((false, eval e X.env) :: backTo pos (starEach [] X.env))) _ _ s
  refine Calls.spliced_cons (thn (he.run pins s σ H _ I h) fun u s1 ⟨v, H1, I1, r1, q1⟩ => ?_)
  refine Calls.spliced_nil ⟨I1.kIn, ?_⟩
  show wpAny _ _ (call (.ref C) [u]) _ _ _
  obtain ⟨hp, g, dr, tk, os⟩ := s1
  have hsz : hp.objs.size ≤ hp.objs.size + 1 := Nat.le_succ _
  have hn : H1 (hp.objs.size + 1) = none := I1.hok.fresh hsz
  have kk : ∀ b o, hp.get? b = some o → ((hp.push (PySem.W.kdv_tup [u])).push (PySem.HandSPX.excO C hp.objs.size)).get? b = some o := fun b o e => Heap.get?_push_of_some _ (Heap.get?_push_of_some _ e)
  have hget : ((hp.push (PySem.W.kdv_tup [u])).push (PySem.HandSPX.excO C hp.objs.size)).get? (hp.objs.size + 1) = some (PySem.HandSPX.excO C hp.objs.size) := by heap_get
  have I2 : Inv X pins σ (upd H1 (hp.objs.size + 1) (exo (hp.objs.size + 1) C none)) ⟨(hp.push (PySem.W.kdv_tup [u])).push (PySem.HandSPX.excO C hp.objs.size), g, dr, tk, os⟩ :=
    I1.laid (t' := tk) (a := hp.objs.size + 1) (o := exo (hp.objs.size + 1) C none) (h' := (hp.push (PySem.W.kdv_tup [u])).push (PySem.HandSPX.excO C hp.objs.size)) kk hsz (exo_ok hget)
  have r2 : Vals [V.ref (hp.objs.size + 1), v] [Value.ref (hp.objs.size + 1), u] := .cons rfl (.cons r1 .nil)
  have hus : [u].length ≤ sizeLine := by
    rw [sizeLine_eq]
    exact (by decide : 1 ≤ 16777216)
  have hsp : spErr C f [V.ref (hp.objs.size + 1), v] (upd H1 (hp.objs.size + 1) (exo (hp.objs.size + 1) C none))
      (fun v' H2 => v' = .non ∧ Q (.ref (hp.objs.size + 1)) H2) (fun _ _ _ => False) := by
    refine ⟨_, v, rfl, upd_same, fun d nd dne => ⟨rfl, ?_⟩⟩
    have nd1 : H1 d = none := by rw [upd_ne dne] at nd; exact nd
    refine q1 _ d _ ?_ hn nd1 upd_same (by rw [upd_ne dne, upd_same])
    intro b o hb
    rw [upd_ne (ne_of_none hb hn), upd_ne (ne_of_none hb nd1), upd_ne (ne_of_none hb hn)]
    exact hb
  refine wpAny_call (PySem.HandSPX.call_own F.excBase_ValueError (fun Y => PySem.HandSPX.refsVE_contains Y bm hbm) (I1.kIn _ _ hC) (PySem.W.looks_findIn I1.kIn iC) (fun self => PySem.W.bind_fn I1.kIn self tI) hus
    (codeAny_mono (F1.run _ X.stack _ _ ⟨[Value.ref (hp.objs.size + 1), u], []⟩ [Value.ref (hp.objs.size + 1), u] _ _ (fun _ _ _ => False) (hr1.make C [u] []) (I2.env0.make C [u] []) (by have z := hb _ [Value.ref (hp.objs.size + 1), u] I2.kIn rfl; exact z) r2 hsp) fun r s' hq' => ?_))
  cases r with
  | error er => exact hx pins σ _ _ er s' I2 hq'
  | ok fl =>
    cases fl with
    | ret u' =>
      obtain ⟨v', H2, os2, bare2, un2, hok2, rv, ev, q2⟩ := hq'
      subst ev
      obtain ⟨h2, g2, d2, t2, os'⟩ := s'
      exact ⟨rv, .ref (hp.objs.size + 1), H2, I2.call' (ch := []) os2 un2 hok2 bare2 (fun b z => absurd z (by simp)), rfl, q2⟩
    | next => exact False.elim hq'
    | brk => exact False.elim hq'
    | cont => exact False.elim hq'
/-! ### the class without own __init__, called with nothing -/
theorem pe_err0 {bmB : List Value} {B newId initId : String} (F : ExcBaseFacts B newId initId bmB) (qq : PySem.W.excIn X.K C bmB newId = true) (gC : X.mg x = some (.ref C)) (kC : PySem.W.keepIn X.K (.ref C) = true) (hg : Gl X x := by rfl)
    (hdb : (x == ("__debug__" : Str)) = false := by decide) :
    PE X (.Call (.Name x p) [] [] pos) (fun σ H Q => ∀ a, H a = none → Q (.ref a) (upd H a (exo a C none))) := by
  refine ⟨fun pins s σ H Q I h => ?_⟩
  refine wpAny_Call_Name_kw (ld_glob I hg gC ?_ hdb)
  refine PySem.W.callWith_K0 I.kIn kC ?_
  show wpAny _ _ (call (.ref C) []) _ _ _
  obtain ⟨bm, N, nm, qn, bs, hdct, sn, sub, ab, col, dd, k0, k1, k2, k3, k5, mN, hC, hN, hni, T⟩ := exc_obj I.kIn qq
  refine wpAny_call_exc_subT F T hC hN hni (fun h' a hm => ?_) (by show 0 ≤ sizeLine; exact Nat.zero_le _)
  have hn : H a = none := I.hok.gone hm.new
  obtain ⟨t, ht, _, _⟩ := hm.there
  exact ⟨.ref a, upd H a (exo a C none), I.laidN hm.keeps hm.new hn (exo_ok ht), rfl, h a hn⟩
/-! ### e.f -/
def tEf (K : PySem.W.Frag) (f : Str) (te : TE) : TE := fun σ H Q => te σ H fun x H1 => ∃ (a C d : Addr) (fs : List (Str × V)) (v : V), x = .ref a ∧ XfC K C ∧ PySem.W.findIn K (.ref C) f = some none ∧ H1 a = some (exo a C (some d)) ∧ H1 d = some (exd d fs) ∧ fs.lookup f = some v ∧ Q v H1
theorem pe_ef (he : PE X e te) (hb : attributeBase e f X.env (eval e X.env) = eval e X.env := by rfl) : PE X (.Attribute e f pos) (tEf X.K f te) := by
  refine ⟨fun pins s σ H Q I h => ?_⟩
  refine attr_of hb (thn (he.run pins s σ H _ I h) fun u s1 hh => ?_)
  obtain ⟨x, H1, I1, rx, a, C, d, fs, v, ex, T, hno, ea, ed, l, q⟩ := hh
  subst ex
  obtain rfl : u = Value.ref a := rx
  obtain ⟨t1, ho⟩ := exo_at I1.hok ea
  obtain ⟨mA, hns, hr⟩ := exd_at I1.hok ed
  obtain ⟨od, hod, hl⟩ := lookIn_ns hns
  obtain ⟨u, hu, ru⟩ := RelO.some_of (v := v) (o := mA f) (by rw [← l]; exact hr f)
  have J : PySem.W.InstAt s1.heap a { cls := .ref C, dict := some d, data := .fields #[.ref t1, .none, .none, .none, .bool false, .none] } C (some od) := ⟨ho, rfl, rfl, hod⟩
  exact HandSPX.exc_get I1.kIn J T.ga T.gg T.exC (PySem.W.findObj_own T.hdC hno rfl (by rw [hl, hu])) (handed_of ru) ⟨v, H1, I1.tok _, ru, q⟩
/-! ### isinstance -/
def rIsX (K : PySem.W.Frag) : List V → Hp → VK → Prop := fun xs H Q => ∃ (a C : Addr) (d : Option Addr) (c : V) (cv : Value) (b : Bool), xs = [.ref a, c] ∧ ExcC K C ∧ H a = some (exo a C d) ∧ (∀ dx, d = some dx → ∃ fs, H dx = some (exd dx fs)) ∧
  (∀ u, RelV c u → u = cv) ∧ PySem.W.kitOne K (.ref C) cv = some b ∧ Q (.bl b) H
theorem call_isX : CallR X (.builtin "isinstance") (rIsX X.K) := by
  intro pins s σ H xs us Q I r h
  obtain ⟨a, C, d, c, cv, b, rfl, T, ea, ed, hcv, e, q⟩ := h
  cases r with
  | cons rx rr =>
    cases rr with
    | cons rt rr =>
      cases rr
      cases rx
      have ec := hcv _ rt
      subst ec
      obtain ⟨t1, ho⟩ := exo_at I.hok ea
      have J : ∃ od, PySem.W.InstAt s.heap a { cls := .ref C, dict := d, data := .fields #[.ref t1, .none, .none, .none, .bool false, .none] } C od := by
        cases d with
        | none => exact ⟨none, ho, rfl, rfl, trivial⟩
        | some dx =>
          obtain ⟨fs, hd⟩ := ed dx rfl
          obtain ⟨mA, hns, _⟩ := exd_at I.hok hd
          obtain ⟨od, hod, _⟩ := lookIn_ns hns
          exact ⟨some od, ho, rfl, rfl, hod⟩
      obtain ⟨od, J⟩ := J
      have hcl : (PySem.W.clsIn X.K C).isSome = true := by
        obtain ⟨cd, hc, _⟩ := PySem.W.any_some T.hd
        rw [hc]; rfl
      exact PySem.W.kia_one (PySem.W.kitx_exc hcl T.hg T.hk T.hs T.ha T.hn T.ht T.hm) I.kIn J e (fun z => nomatch z) fun tk => ⟨.bl b, H, I.kept (t' := tk) fun _ _ z => z, rfl, q⟩
end
end TW

namespace TW
open PySem PySem.Spec PyProof.Rows L2
/-! ### operators of an own class -/
section
variable {M : Model} {h : Heap} {K : PySem.W.Frag} {C : Addr} {nm : String}
/-- neither the class nor object has the in-place method -/
theorem looks_noI {cd : ClassData} {add : Bool} (X : K.In h) (hc : PySem.W.clsIn K C = some cd) (hm : cd.mro = [.ref C, .type "object"]) (h1 : PySem.W.findIn K (.ref C) (dunderI nm) = some none) (h2 : PySem.W.findIn K (.type "object") (dunderI nm) = some none) :
    PySem.W.Looks M h (fillsInplaceSlot (.ref C) nm add) false := by
  intro A Q E s k q
  have Lm : PySem.W.Looks M h (mroOf (.ref C)) cd.mro := (PySem.W.looks_clsIn X hc).andThen (f := fun cd => pure cd.mro) .now
  have X' : K.In s.heap := X.keeps k
  unfold fillsInplaceSlot
  refine wpAny_bind (Lm A _ E s k ?_)
  rw [hm, List.anyM_cons]
  refine wpAny_bind (wpAny_bind (PySem.W.looks_findIn X h1 A _ E s k ?_))
  refine wpAny_pure ?_
  rw [List.anyM_cons]
  refine wpAny_bind (wpAny_bind (PySem.W.looks_findIn X h2 A _ E s k ?_))
  refine wpAny_pure ?_
  exact wpAny_pure q
end
section
variable {X : Cx} {CX : CXT} {k k' : Nat} {C : Addr} {m : Str} {ps : List Str} {sp : Sp} {E : XK}
/-- the class as the operators ask of it -/
structure OpC (K : PySem.W.Frag) (C : Addr) : Prop where
  sf : PySem.W.selfFirst K C = true
/-- x op y, both of the class -/
def rOwn (C : Addr) (sp : Sp) (E : XK) : R2 := fun x y H Q => ∃ (a b d1 d2 : Addr) (f1 f2 : List (Str × V)), x = .ref a ∧ y = .ref b ∧ H a = some (.ins C d1 f1) ∧ H b = some (.ins C d2 f2) ∧ sp [.ref a, .ref b] H (fun v H' => (∃ r, v = .ref r) ∧ Q v H') E
theorem back_ref {pins : List (Addr × Obj)} {σ : L2.St} {Q : VK} {u : Value} {s : Shared} (h : EP X pins σ (fun v H' => (∃ r, v = .ref r) ∧ Q v H') u s) : PySem.W.CmpBack (EP X pins σ Q) u s := by
  obtain ⟨v, H, I, r, ⟨p, rfl⟩, q⟩ := h
  cases r
  exact ⟨.ref p, H, I, rfl, q⟩
theorem op_own {op : Operator} (D : MethOk X.prog X.w X.K X.mg X.base CX k C m ps [] sp) (c : OpC X.K C) (hr : Room k' X.A) (hx : Passes CX X E) (hk : k ≤ k' := by decide) (hm : m = PySem.dunder op.info.2 := by rfl) : OpR X (binaryOp op) (rOwn C sp E) := by
  obtain ⟨f, fd, ds, hM, hb, hd, F⟩ := D
  intro pins s σ H x y v u Q I rx ry h
  obtain ⟨a, b, d1, d2, f1, f2, rfl, rfl, ea, eb, q⟩ := h
  cases rx
  cases ry
  obtain ⟨mA, oA, _, _, _, _⟩ := ins_get I.hok ea
  obtain ⟨mB, oB, _, _, _, _⟩ := ins_get I.hok eb
  obtain ⟨odA, IA, _⟩ := oA.look
  obtain ⟨odB, IB, _⟩ := oB.look
  obtain ⟨mf, fr⟩ := I.fr
  subst hm
  refine PySem.W.binop_K fr I.ok.mod.kin IA IB.type c.sf hM.at_ hM.fn ?_
  refine wpAny_mono (run_fn (vs := [.ref a, .ref b]) F (hr.mono hk) hb hd hx I (.cons rfl (.cons rfl .nil)) q) (fun _ _ z => back_ref z) fun _ _ z => z
/-- x op= y where the class has no in-place method -/
theorem op_ownI {op : Operator} {cd : ClassData} (D : MethOk X.prog X.w X.K X.mg X.base CX k C m ps [] sp) (c : OpC X.K C) (hc : PySem.W.clsIn X.K C = some cd) (hmro : cd.mro = [.ref C, .type "object"]) (h1 : PySem.W.findIn X.K (.ref C) (dunderI op.info.2) = some none)
    (h2 : PySem.W.findIn X.K (.type "object") (dunderI op.info.2) = some none) (hr : Room k' X.A) (hx : Passes CX X E) (hk : k ≤ k' := by decide) (hm : m = PySem.dunder op.info.2 := by rfl) : OpR X (inplaceOp op) (rOwn C sp E) := by
  obtain ⟨f, fd, ds, hM, hb, hd, F⟩ := D
  intro pins s σ H x y v u Q I rx ry h
  obtain ⟨a, b, d1, d2, f1, f2, rfl, rfl, ea, eb, q⟩ := h
  cases rx
  cases ry
  obtain ⟨mA, oA, _, _, _, _⟩ := ins_get I.hok ea
  obtain ⟨mB, oB, _, _, _, _⟩ := ins_get I.hok eb
  obtain ⟨odA, IA, _⟩ := oA.look
  obtain ⟨odB, IB, _⟩ := oB.look
  subst hm
  have XK := I.kIn
  have run := run_fn (vs := [.ref a, .ref b]) F (hr.mono hk) hb hd hx I (.cons rfl (.cons rfl .nil)) q
  unfold inplaceOp
  refine wpAny_holding ?_
  refine wpAny_bind (IA.type.here (wpAny_bind ((looks_noI XK hc hmro h1 h2).here ?_)))
  simp only [Bool.false_eq_true, if_false]
  refine wpAny_bind ?_
  unfold binaryOp1
  refine wpAny_bind (IA.type.here (wpAny_bind (IB.type.here (wpAny_bind ((PySem.W.fills_K XK hc (by rw [hmro]) hM.at_).here ?_)))))
  simp only [beq_self_eq_true, if_true]
  refine wpAny_bind (wpAny_pure ?_)
  simp only [Bool.and_false, Bool.false_eq_true, if_false, Bool.false_and]
  refine wpAny_bind (wpAny_pure ?_)
  simp only [Bool.false_eq_true, if_false]
  refine wpAny_bind (m := tryMethod (.ref a) _ (.ref b)) ?_
  unfold tryMethod
  refine wpAny_bind (PySem.W.special_fn XK IA hM.at_ (beq_iff_eq.mp hM.fn) (wpAny_mono run (fun v s' hv => ?_) fun _ _ e => e))
  have hv' := back_ref hv
  cases v <;> first | exact hv'.elim | exact wpAny_pure (wpAny_pure (wpAny_pure hv'))
/-- x op k, k an int -/
def rOwnN (C : Addr) (sp : Sp) (E : XK) : R2 := fun x y H Q => ∃ (a d1 : Addr) (f1 : List (Str × V)) (k : Int), x = .ref a ∧ y = .int k ∧ H a = some (.ins C d1 f1) ∧ sp [.ref a, .int k] H (fun v H' => (∃ r, v = .ref r) ∧ Q v H') E
theorem op_ownN {op : Operator} {fo ro : Option Value} (D : MethOk X.prog X.w X.K X.mg X.base CX k C m ps [] sp) (c : OpC X.K C) (h0 : PySem.W.findIn X.K (.ref C) (dunderR op.info.2) = some none) (h1 : fastLookup "int" (PySem.dunder op.info.2) = some fo)
    (h2 : fastLookup "int" (dunderR op.info.2) = some ro) (hr : Room k' X.A) (hx : Passes CX X E) (hk : k ≤ k' := by decide) (hm : m = PySem.dunder op.info.2 := by rfl) : OpR X (binaryOp op) (rOwnN C sp E) := by
  obtain ⟨f, fd, ds, hM, hb, hd, F⟩ := D
  intro pins s σ H x y v u Q I rx ry h
  obtain ⟨a, d1, f1, z, rfl, rfl, ea, q⟩ := h
  cases rx
  obtain ⟨t, rfl⟩ := ry
  obtain ⟨mA, oA, _, _, _, _⟩ := ins_get I.hok ea
  obtain ⟨odA, IA, _⟩ := oA.look
  obtain ⟨mf, fr⟩ := I.fr
  subst hm
  have hsub : PySem.W.subIn X.K (.type "int") (.ref C) = some false := by
    have e : fastBuiltinMro "int" = some [.type "int", .type "object"] := by decide +kernel
    show (fastBuiltinMro "int").map (·.contains (.ref C)) = _
    rw [e]
    rfl
  refine PySem.W.ksp_binT (T := "int") fr I.ok.mod.kin IA rfl c.sf hM.at_ hM.fn h0 (.inl rfl) (show PySem.W.findIn X.K (.type "int") _ = some fo from h1) (show PySem.W.findIn X.K (.type "int") _ = some ro from h2) hsub ?_
  refine wpAny_mono (run_fn (vs := [.ref a, .int z]) F (hr.mono hk) hb hd hx I (.cons rfl (.cons ⟨t, rfl⟩ .nil)) q) (fun _ _ z => back_ref z) fun _ _ z => z
/-- ~x -/
def rOwnU (C : Addr) (sp : Sp) (E : XK) : V → Hp → VK → Prop := fun x H Q => ∃ (a d1 : Addr) (f1 : List (Str × V)), x = .ref a ∧ H a = some (.ins C d1 f1) ∧ sp [.ref a] H Q E
theorem un_inv (D : MethOk X.prog X.w X.K X.mg X.base CX k C "__invert__" ps [] sp) (hr : Room k' X.A) (hx : Passes CX X E) (hk : k ≤ k' := by decide) : UnR X (unaryOp .Invert) (rOwnU C sp E) := by
  obtain ⟨f, fd, ds, hM, hb, hd, F⟩ := D
  intro pins s σ H x v Q I rx h
  obtain ⟨a, d1, f1, rfl, ea, q⟩ := h
  cases rx
  obtain ⟨mA, oA, _, _, _, _⟩ := ins_get I.hok ea
  obtain ⟨odA, IA, _⟩ := oA.look
  obtain ⟨mf, fr⟩ := I.fr
  refine PySem.W.ksp_inv fr I.ok.mod.kin IA hM.at_ hM.fn ?_
  exact run_fn (vs := [.ref a]) F (hr.mono hk) hb hd hx I (.cons rfl .nil) q
/-- x[i] -/
def rOwnIx (C : Addr) (sp : Sp) (E : XK) : R2 := fun x y H Q => ∃ (a d1 : Addr) (f1 : List (Str × V)) (i : Int), x = .ref a ∧ y = .int i ∧ H a = some (.ins C d1 f1) ∧ sp [.ref a, .int i] H Q E
theorem run_fn1 {f : Addr} {fd : FuncData} {ds : List Value} {dvs : List V} {pins : List (Addr × Obj)} {σ : L2.St} {H : Hp} {s : Shared} {Q : VK} {us : List Value} {vs : List V} (F : FnOk X.prog X.w X.K X.mg X.base CX k f fd ps sp) (hr : Room k X.A.in1) (hb : Binds X.K fd ps ds) (hd : Vals dvs ds)
    (hx : Passes CX X E) (I : Inv X pins σ H s) (r : Vals vs us) (h : sp (vs ++ dvs) H Q E) : wpAny (model X.prog X.w) X.A.in1 (call (.ref f) us) (EP X pins σ Q) X.xe s := by
  have r2 := r.append hd
  have hl : (us ++ ds).length = ps.length := r2.length.symm.trans (F.len _ _ _ _ h)
  refine wpAny_call (codeAny_mono (F.run X.A.in1 X.stack s H ⟨us, []⟩ (us ++ ds) (vs ++ dvs) Q E hr I.env0.in1 (hb s us I.kIn hl) r2 h) fun z s' hq => ?_)
  match z, hq with
  | .error e, hq => exact hx pins σ H s e s' I hq
  | .ok (.ret u), hq => exact I.after hq
theorem pe_ownIx {a b : Expr} {ta tb : TE} {pos : Pos} (D : MethOk X.prog X.w X.K X.mg X.base CX k C "__getitem__" ps [] sp) (hfn : ∀ f, PySem.W.findIn X.K (.ref C) "__getitem__" = some (some (.ref f)) → PySem.W.fnIn X.K f = true) (hr : Room k' X.A) (hx : Passes CX X E) (ha : PE X a ta) (hb : PE X b tb)
    (hk : k + 1 ≤ k' := by decide) (hs : ∀ (x : Addr) (i : Value), subscripted b true (.ref x) i = runValue (.builtin "lifetime.subscript" ⟨[.ref x, i], []⟩) := by intro _ _; with_unfolding_all rfl) : PE X (.Subscript a b pos) (tOp (rOwnIx C sp E) ta tb) := by
  obtain ⟨f, fd, ds, hM, hbi, hd, F⟩ := D
  refine ⟨fun pins s σ H Q I h => ?_⟩
  refine Subscript_ (binT ha hb I h fun v u s2 x y H2 I2 rx ry q => ?_)
  obtain ⟨p, d1, f1, i, rfl, rfl, ea, q⟩ := q
  cases rx
  obtain ⟨t, rfl⟩ := ry
  obtain ⟨mA, oA, _, _, _, _⟩ := ins_get I2.hok ea
  obtain ⟨odA, IA, _⟩ := oA.look
  obtain ⟨mf, fr⟩ := I2.fr
  refine PySem.W.sub_K fr I2.ok.mod.kin IA hM.at_ (hfn f hM.at_) hM.fn ?_ (hs p _)
  exact run_fn1 (vs := [.ref p, .int i]) F (hr.mono hk).in1 hbi hd hx I2 (.cons rfl (.cons ⟨t, rfl⟩ .nil)) q
end
end TW

namespace TW
open PySem PySem.Spec PyProof.Rows L2
/-! ### an error with one attribute, raised -/
section
variable {X : Cx} {CX : CXT} {k k' : Nat} {C : Addr} {x f q : Str} {e : Expr} {te : TE} {p pos : Pos}
theorem upd_del {H : Hp} {a d C : Addr} {f : Str} {v : V} (ha : H a = none) (hd : d ≠ a) :
    upd (del (upd (upd (upd H a (exo a C none)) d (exd d [(f, v)])) a (exo a C (some d))) a) d (.xd [(f, v)]) = upd H d (.xd [(f, v)]) := by
  funext b
  by_cases h1 : b = d
  · rw [h1, upd_same, upd_same]
  · rw [upd_ne h1, upd_ne h1]
    by_cases h2 : b = a
    · rw [h2, del_same, ha]
    · rw [del_ne h2, upd_ne h2, upd_ne h1, upd_ne h2]
def tMkErr (C : Addr) (f : Str) (te : TE) : L2.St → Hp → XK → Prop := fun σ H Q => te σ H fun v H1 => ∀ d : Addr, H1 d = none → Q (.ref C) (some d) (upd H1 d (.xd [(f, v)]))
theorem pmk_err (D : ErrOk X.prog X.w X.K X.mg X.base CX k C x f q) (hr : Room k' X.A) (hx : Passes CX X (fun _ _ _ => False)) (he : PE X e te) (hk : k + 1 ≤ k' := by decide) (hg : Gl X x := by rfl)
    (hdb : (x == ("__debug__" : Str)) = false := by decide) (hs : starEach [e] X.env = (false, eval e X.env) :: starEach [] X.env := by rfl) (hpl : (backTo pos (starEach [] X.env)).any (·.1) = false := by rfl) :
    PMk X (.Call (.Name x p) [e] [] pos) (tMkErr C f te) := by
  obtain ⟨T, hm, fI, fd, iC, tI, hb, F1⟩ := D
  have he2 : PE X e (fun σ H Q => ∃ Q0 : VK, te σ H Q0 ∧ ∀ v H1, Q0 v H1 → Q v H1) := ⟨fun pins s σ H Q I ⟨Q0, h0, hm⟩ =>
    wpAny_mono (he.run pins s σ H Q0 I h0) (fun _ _ ⟨v, H1, I1, r1, q1⟩ => ⟨v, H1, I1, r1, hm v H1 q1⟩) fun _ _ z => z⟩
  have R := pmk_oex (p := p) (pos := pos) T.oex iC tI F1 (hr.mono hk) hb .nil hx hg hm (pa_cons he2 pa_nil hs) hdb hs hpl
  intro pins s σ H Q I h
  refine R pins s σ H Q I ?_
  refine ⟨_, h, fun v H1 q => ⟨by show 1 ≤ 1000; decide, fun a na => ⟨a, v, rfl, upd_same, fun d nd dne => ⟨rfl, d, [(f, v)], upd_same, ?_, ?_, ?_⟩⟩⟩⟩
  · rw [upd_ne dne, upd_same]
  · rw [upd_ne dne] at nd
    exact nd
  · rw [upd_del na dne]
    rw [upd_ne dne] at nd
    exact q d nd
/-- x op y of an own class, which may raise -/
def tOwnS (C : Addr) (sp : Sp) (E : L2.St → XK) (ta tb : TE) : TE := fun σ H Q => ta σ H fun x H1 => tb σ H1 fun y H2 => rOwn C sp (E σ) x y H2 Q
theorem pe_ownS {op : Operator} {m : Str} {ps : List Str} {sp : Sp} {E : L2.St → XK} {a b : Expr} {ta tb : TE} (D : MethOk X.prog X.w X.K X.mg X.base CX k C m ps [] sp) (c : OpC X.K C) (hr : Room k' X.A) (hx : ∀ σ, PassesAt CX X σ (E σ)) (ha : PE X a ta) (hb : PE X b tb)
    (hk : k ≤ k' := by decide) (hm : m = PySem.dunder op.info.2 := by rfl) : PE X (.BinOp a op b pos) (tOwnS C sp E ta tb) := by
  obtain ⟨f, fd, ds, hM, hbi, hd, F⟩ := D
  refine ⟨fun pins s σ H Q I h => ?_⟩
  refine wpAny_BinOp (binT ha hb I h fun v u s2 x y H2 I2 rx ry q => ?_)
  obtain ⟨p, r, d1, d2, f1, f2, rfl, rfl, ea, eb, q⟩ := q
  cases rx
  cases ry
  obtain ⟨mA, oA, _, _, _, _⟩ := ins_get I2.hok ea
  obtain ⟨mB, oB, _, _, _, _⟩ := ins_get I2.hok eb
  obtain ⟨odA, IA, _⟩ := oA.look
  obtain ⟨odB, IB, _⟩ := oB.look
  obtain ⟨mf, fr⟩ := I2.fr
  subst hm
  refine PySem.W.binop_K fr I2.ok.mod.kin IA IB.type c.sf hM.at_ hM.fn ?_
  refine wpAny_mono (run_fnSD (E := E) (vs := [.ref p, .ref r]) F (hr.mono hk) hbi hd (hx σ) I2 (.cons rfl (.cons rfl .nil)) q) (fun _ _ z => back_ref z) fun _ _ z => z
end
end TW

namespace TW
open PySem PySem.Spec PyProof.Rows L2
/-! ### == and != by an own __eq__, whatever the other one is -/
section
open Builtin
variable {prog : Program} {w : World} {A : Around} {E : Value → Shared → Prop} {s : Shared} {K : PySem.W.Frag} {x C L f : Addr} {h₀ : Heap} {m : Str → Option Value} {ox : Obj} {od : Option Obj} {b tb : Value}
theorem ne_entry (X : K.In s.heap) (I : PySem.W.InstAt s.heap x ox C od) (hs : PySem.W.findIn K (.ref C) "__eq__" = some (some (.ref f))) (hf : PySem.W.isFn K (.ref f) = true) (hu : A.units < cLine) {Q : Fin → Shared → Prop}
    (hcall : wpAny (model prog w) A (call (.ref f) [.ref x, b]) (fun v s' => ∃ c, v = .bool c ∧ Q (.done (.ret (.bool (!c)))) s') E s) :
    wpAny (model prog w) A (Builtin.«object.__ne__» ⟨[.ref x, b], []⟩) Q E s := by
  unfold Builtin.«object.__ne__»
  repeat (first
    | with_reducible refine wpAny_cRoomFor hu ?_
    | (refine wpAny_bind (m := callSpecialIfBound? (.ref x) (Str.ofString "__eq__") [b])
        (PySem.W.ifBound_K X I hs hf (wpAny_mono hcall (fun r s' hr => by
          obtain ⟨c, rfl, hq⟩ := hr
          repeat (first | exact hq | exact wpAny_pure hq | exact wpAny_truthy_bool hq | (refine wpAny_bind (m := truthy (.bool _)) (wpAny_truthy_bool ?_)) | wp_step)) fun _ _ e => e)))
    | wp_step)
theorem ne_own (hu : A.units + 1 < cLine) (F : Fr h₀ L s.heap m) (X₀ : K.In h₀) (I : PySem.W.InstAt s.heap x ox C od) (hb : PySem.W.Looks (model prog w) s.heap (typeOf b) tb) (hn : PySem.W.notFirst K C tb = true)
    (hne : PySem.W.findIn K (.ref C) "__ne__" = some (some (.builtin "object.__ne__"))) (hs : PySem.W.findIn K (.ref C) "__eq__" = some (some (.ref f))) (hf : PySem.W.isFn K (.ref f) = true) (hm : PySem.W.mroIn K C (.type "object") = some true) {Q : Value → Shared → Prop}
    (h : wpAny (model prog w) A.in1 (call (.ref f) [.ref x, b]) (fun v s' => ∃ c, v = .bool c ∧ Q (.bool (!c)) s') E s) : wpAny (model prog w) A (compareOp .NotEq (.ref x) b) Q E s := by
  have X := X₀.keeps F.keep
  have FB := PySem.F.cmp_object
  have one : wpAny (model prog w) A (tryCompare (.ref x) (cmpInfo .NotEq).2.1 b) (fun r s' => ∃ v, r = some v ∧ Q v s') E s := by
    unfold tryCompare
    refine wpAny_bind ?_
    simp only [callSpecialIfBound?, bindSpecialIfBound?]
    refine wpAny_holding (wpAny_bind (wpAny_bind (wpAny_bind (I.type.here ((PySem.W.looks_findIn X hne).here ?_)))))
    simp only [FB.ne.bind]
    refine wpAny_bind (wpAny_askSetting (wpAny_ite ?_))
    have sub : PySem.W.Looks (model prog w) s.heap (isInstance (.ref x) (.type "object")) true := I.type.andThen (PySem.W.looks_mroIn X hm)
    have fin : wpAny (model prog w) A (call (.builtin "object.__ne__") [.ref x, b]) (fun v s' => ∃ c, v = .bool c ∧ Q (.bool c) s') E s := by
      refine wpAny_call (codeAny_call_builtin FB.ne.plain PySem.F.cmpEntry_ne ?_)
      refine @PySem.W.check_slot (model prog w) _ _ s "object.__ne__" "object" "__ne__" (.ref x) [b] [] _ PySem.F.cmpKind_ne PySem.F.cmpSplit_ne sub (PySem.F.cmpArgs_ne _ _) ?_
      refine ne_entry (A := A.in1) X I hs hf hu (wpAny_mono h (fun v s' hv => ?_) fun _ _ e => e)
      obtain ⟨c, rfl, hq⟩ := hv
      exact ⟨c, rfl, _, rfl, hq⟩
    have go : wpAny (model prog w) A (call (.builtin "object.__ne__") ([.ref x] ++ [b]) >>= fun v => pure (some v)) (fun a s' => wpAny (model prog w) A (match a with | some .notImplemented => pure none | none => pure none | some v => pure (some v)) (fun r s' => ∃ v, r = some v ∧ Q v s') E s') E s :=
      wpAny_bind (wpAny_mono fin (fun v s' hv => by
        obtain ⟨c, rfl, hq⟩ := hv
        exact wpAny_pure (wpAny_pure ⟨_, rfl, hq⟩)) fun _ _ e => e)
    split
    · exact wpAny_bind (wpAny_pure (wpAny_pure go))
    · exact wpAny_tryCatch (wpAny_bind (wpAny_pure (wpAny_pure go)))
  show wpAny (model prog w) A (richCompare .NotEq (.ref x) b) Q E s
  unfold richCompare
  simp only [oneThing_ref]
  refine wpAny_holding (wpAny_bind (wpAny_cRoomFor (Nat.lt_of_succ_lt hu) ?_))
  refine wpAny_bind (I.type.here (wpAny_bind (hb.here ?_)))
  split
  · rename_i q
    have e : PySem.W.subIn K tb (.ref C) = some false := by
      rcases Bool.or_eq_true_iff.mp hn with e | e
      · rw [beq_iff_eq.mp e] at q; simp at q
      · exact beq_iff_eq.mp e
    refine wpAny_bind ((PySem.W.looks_subIn X e).here ?_)
    simp only [Bool.false_eq_true, if_false]
    refine wpAny_bind (wpAny_mono one (fun r s' z => ?_) fun _ _ e => e)
    obtain ⟨v, rfl, hq⟩ := z
    exact wpAny_pure hq
  · refine wpAny_bind (wpAny_pure ?_)
    simp only [Bool.false_eq_true, if_false]
    refine wpAny_bind (wpAny_mono one (fun r s' z => ?_) fun _ _ e => e)
    obtain ⟨v, rfl, hq⟩ := z
    exact wpAny_pure hq
end
section
variable {X : Cx} {CX : CXT} {k k' : Nat} {C : Addr} {ps : List Str} {sp : Sp} {E : XK}
/-- x == y, x of the class, y of a type that is none below it -/
def rEqOwn (K : PySem.W.Frag) (C : Addr) (neg : Bool) (sp : Sp) (E : XK) : R2 := fun x y H Q => ∃ (a d1 : Addr) (f1 : List (Str × V)) (t : Value), x = .ref a ∧ H a = some (.ins C d1 f1) ∧ TyX K H y t ∧ PySem.W.notFirst K C t = true ∧
  sp [.ref a, y] H (fun v H' => ∃ c, v = .bl c ∧ Q (.bl (c != neg)) H') E
theorem op_eqOwn (D : MethOk X.prog X.w X.K X.mg X.base CX k C "__eq__" ps [] sp) (hr : Room k' X.A) (hx : Passes CX X E) (hk : k ≤ k' := by decide) : OpR X (compareOp .Eq) (rEqOwn X.K C false sp E) := by
  obtain ⟨f, fd, ds, hM, hb, hd, F⟩ := D
  intro pins s σ H x y v u Q I rx ry h
  obtain ⟨a, d1, f1, t, rfl, ea, ty, hn, q⟩ := h
  cases rx
  obtain ⟨mA, oA, _, _, _, _⟩ := ins_get I.hok ea
  obtain ⟨odA, IA, _⟩ := oA.look
  obtain ⟨mf, fr⟩ := I.fr
  obtain ⟨P, Z, p, _⟩ := kit_of I ry ty
  have L := Z.ty (model X.prog X.w) s.heap I.kIn p
  refine PySem.W.cmp_K (op := .Eq) hr.units0 fr I.ok.mod.kin IA L hn hM.at_ hM.fn ?_
  refine wpAny_mono (run_fn (vs := [.ref a, y]) F (hr.mono hk) hb hd hx I (.cons rfl (.cons ry .nil)) q) (fun z s' hz => ?_) fun _ _ z => z
  obtain ⟨v', H', I', r', c, rfl, q'⟩ := hz
  cases r'
  have e : (c != false) = c := by cases c <;> rfl
  rw [e] at q'
  exact ⟨.bl c, H', I', rfl, q'⟩
/-- x != y by the same __eq__ -/
theorem op_neOwn (D : MethOk X.prog X.w X.K X.mg X.base CX k C "__eq__" ps [] sp) (hne : PySem.W.findIn X.K (.ref C) "__ne__" = some (some (.builtin "object.__ne__"))) (hm : PySem.W.mroIn X.K C (.type "object") = some true) (hr : Room k' X.A) (hx : Passes CX X E) (hk : k + 1 ≤ k' := by decide) :
    OpR X (compareOp .NotEq) (rEqOwn X.K C true sp E) := by
  obtain ⟨f, fd, ds, hM, hb, hd, F⟩ := D
  intro pins s σ H x y v u Q I rx ry h
  obtain ⟨a, d1, f1, t, rfl, ea, ty, hn, q⟩ := h
  cases rx
  obtain ⟨mA, oA, _, _, _, _⟩ := ins_get I.hok ea
  obtain ⟨odA, IA, _⟩ := oA.look
  obtain ⟨mf, fr⟩ := I.fr
  obtain ⟨P, Z, p, _⟩ := kit_of I ry ty
  have L := Z.ty (model X.prog X.w) s.heap I.kIn p
  refine ne_own (by have := hr.un; omega) fr I.ok.mod.kin IA L hn hne hM.at_ hM.fn hm ?_
  refine wpAny_mono (run_fn1 (vs := [.ref a, y]) F (hr.mono hk).in1 hb hd hx I (.cons rfl (.cons ry .nil)) q) (fun z s' hz => ?_) fun _ _ z => z
  obtain ⟨v', H', I', r', c, rfl, q'⟩ := hz
  cases r'
  have e : (c != true) = !c := by cases c <;> rfl
  rw [e] at q'
  exact ⟨c, rfl, .bl (!c), H', I', rfl, q'⟩
end
end TW

namespace TW
open PySem PySem.Spec PyProof.Rows L2
/-! ### an object made by an __init__ that raises, in a try -/
section
variable {X : Cx} {CX : CXT} {k k' : Nat} {ps : List Str} {sp : Sp} {dvs : List V} {E : L2.St → XK} {x : Str} {p pos : Pos} {e : Expr} {es : List Expr} {t : TA} {C : Addr}
def tMakeS (C : Addr) (sp : Sp) (dvs : List V) (E : L2.St → XK) (t : TA) : TE := fun σ H Q => t σ H fun vs H1 => ∀ y dx, H1 y = none → H1 dx = none → dx ≠ y →
  sp (.ref y :: (vs ++ dvs)) (upd (upd H1 dx (.own y)) y (.ins C dx [])) (fun v H2 => v = .non ∧ Q (.ref y) H2) (E σ)
theorem pe_mkS (D : MakeOk X.prog X.w X.K X.mg X.base CX k C x ps dvs sp) (hr : Room k' X.A) (hx : ∀ σ, PassesAt CX X σ (E σ)) (ha : PA X (e :: es) t) (hk : k + 1 ≤ k' := by decide) (hg : Gl X x := by rfl) (hdb : (x == ("__debug__" : Str)) = false := by decide)
    (he : starEach (e :: es) X.env = (false, eval e X.env) :: starEach es X.env := by rfl) (hpl : (backTo pos (starEach es X.env)).any (·.1) = false := by rfl) : PE X (.Call (.Name x p) (e :: es) [] pos) (tMakeS C sp dvs E t) := by
  obtain ⟨hm, f, fd, ds, M, hb, hd, F⟩ := D
  have hr1 := hr.mono hk
  refine ⟨fun pins s σ H Q I h => ?_⟩
  refine wpAny_Call_Name_kw (ld_glob I hg hm ?_ hdb)
  refine PySem.W.callWith_K (h₀ := X.base) I.ok.mod.kin M.kp (thn (ha.run pos pins s σ H _ I h) fun us s1 ⟨vs, H1, I1, r, q⟩ => ⟨I1.kIn, ?_⟩) he hpl
  show wpAny _ _ (call (.ref C) us) _ _ _
  have q2 := q (s1.heap.objs.size + 1) s1.heap.objs.size (I1.hok.fresh (Nat.le_succ _)) (I1.hok.fresh (Nat.le_refl _)) (Nat.ne_of_lt (Nat.lt_succ_self _))
  have I2 := Inv.made (C := C) I1
  have rr : Vals (V.ref (s1.heap.objs.size + 1) :: (vs ++ dvs)) (Value.ref (s1.heap.objs.size + 1) :: (us ++ ds)) := .cons rfl (r.append hd)
  have len : (Value.ref (s1.heap.objs.size + 1) :: us ++ ds).length = ps.length := rr.length.symm.trans (F.len _ _ _ _ q2)
  refine wpAny_call (make_map (f := f) I1.kIn M.makes M.init (beq_iff_eq.mp M.fn) (codeAny_mono (F.run _ X.stack _ _ ⟨Value.ref (s1.heap.objs.size + 1) :: us, []⟩ _ _ _ (E σ) (hr1.make C us []) (I2.env0.make C us []) (hb _ (Value.ref (s1.heap.objs.size + 1) :: us) I2.kIn len) rr q2) fun z s' hz => ?_))
  match z, hz with
  | .error er, hz => exact hx σ pins _ _ er s' I2 hz
  | .ok (.ret u), hz =>
    obtain ⟨v, H', I3, rv, ev, q3⟩ := I2.after hz
    subst ev
    exact ⟨rv, V.ref (s1.heap.objs.size + 1), H', I3, rfl, q3⟩
end
end TW

namespace TW
open PySem PySem.Spec PyProof.Rows L2
/-! ### try: .. with several clauses that name their error -/
abbrev Suite := Addr → Value → Option Addr → TS
/-- one clause behind the other: class, the slot of its name, its suite -/
def wManyA (K : PySem.W.Frag) (W0 : WX) (D : Ends) : List (Value × Nat × Suite) → WX
  | [] => W0
  | (c, i, ts) :: rest => fun cls d σ H => ∃ b, PySem.W.exmOne K cls c = some b ∧
      (b = true → ∀ a, H a = none → ts a cls d { nx := fun σ' H' => D.nx (σ'.set i none) H', rt := D.rt, bk := fun σ' H' => D.bk (σ'.set i none) H', ct := fun σ' H' => D.ct (σ'.set i none) H' } (σ.set i (some (.ref a))) H) ∧
      (b = false → wManyA K W0 D rest cls d σ H)
inductive HdsA (X : Cx) : List ExceptHandler → List (Value × Nat × Suite) → Prop
  | nil : HdsA X [] []
  | cons {x n : Str} {c : Value} {i : Nat} {ts : Suite} {b₀ : Stmt} {suite : List Stmt} {p1 p2 : Pos} {hs : List ExceptHandler} {l : List (Value × Nat × Suite)} (hc : Names X x c) (hi : X.N[i]? = some n) (hl : X.env.kindOf n = some .local)
      (su : ∀ (a : Addr) (o : Obj) (cls : Value) (d : Option Addr) (pn : List (Addr × Obj)), Zc cls d o → (∃ vs, o.data = .fields vs) → PSs (X.suite a ((a, o) :: pn)) (b₀ :: suite) (ts a cls d)) (rest : HdsA X hs l) :
      HdsA X (.ExceptHandler (some (.Name x p1)) (some n) (b₀ :: suite) p2 :: hs) ((c, i, ts) :: l)
section
variable {X : Cx} {body : List Stmt} {hd₀ : ExceptHandler} {hds : List ExceptHandler} {l : List (Value × Nat × Suite)} {tb : WX → TS} {W0 : WX} {pos : Pos}
theorem ps_try_manyA (hs : X.stack = X.env :: X.outer) (hf : X.env.frame = some X.env.locals) (hN : X.N.Nodup) (tk : Takes X W0)
    (hb : ∀ (W : WX) (pn : List (Addr × Obj)) (xe : Value → Shared → Prop), Takes (X.tr pn xe) W → PassesOwn (model X.prog X.w) X.A X.env xe → PSs (X.tr pn xe) body (tb W)) (hh : HdsA X (hd₀ :: hds) l) :
    PS X (.Try body (hd₀ :: hds) [] [] pos) (fun D σ H => tb (wManyA X.K W0 D l) D σ H) := by
  refine ⟨fun pins s0 σ0 H0 D I0 h0 => ?_⟩
  have OK := I0.ok
  have frm : X.A.frames = some (X.env :: X.outer) := by rw [OK.frames, hs]
  refine wpAny_Try_except (wpAny_mono ((hb (wManyA X.K W0 D l) (X.pn ++ pins) (fun u t1 => wpAny (model X.prog X.w) X.A (noteFrame u X.env) (fun _ t2 => wpAny (model X.prog X.w) X.A (setFlight u none) (fun _ t3 =>
    wpAny (model X.prog X.w) X.A (handleBy u X.env (hd₀ :: hds)) (SP X pins D) X.xe t3) X.xe t2) X.xe t1) (fun u sx air => ?_) PassesOwn.looking).run [] s0 σ0 H0 D (I0.toTry _) h0) (fun fl t1 sp => ?_) (fun u t1 z => z))
  · obtain ⟨x, G, sJ, pins2, σ1, H1, cls, d, rfl, JJ, keepB, upS, inSky, free, sameOs, bareS, how⟩ := air
    have J := JJ.ofTry OK
    rw [hs] at inSky
    refine Sky.land Zc.steady frm hf inSky fun hA flA upA => ?_
    have JA : Inv X pins σ1 H1 { sx with heap := hA } := J.landed keepB flA.1 (upS.trans upA) sameOs bareS
    obtain ⟨oA, vA, eA, zA, dA⟩ := flA.there
    have noF : x ∉ frs (X.env :: X.outer) := fun hm => by
      obtain ⟨_, o2, e2, bad⟩ := flA.2.2.1.mem hm
      rw [eA] at e2
      cases e2
      exact bad _ dA
    have neL : x ≠ X.env.locals := fun z => noF (List.mem_filterMap.mpr ⟨X.env, List.mem_cons_self, by rw [hf, z]⟩)
    have neF : x ∉ X.fs := fun hm => by
      obtain ⟨en, hen, z⟩ := List.mem_filterMap.mp hm
      exact noF (List.mem_filterMap.mpr ⟨en, List.mem_cons_of_mem _ hen, z⟩)
    have SA := JA.suite eA dA free neL neF
    have all : ∀ {hq : List ExceptHandler} {lq : List (Value × Nat × Suite)}, HdsA X hq lq → wManyA X.K W0 D lq cls d σ1 H1 → wpAny (model X.prog X.w) X.A (handleBy (.ref x) X.env hq) (SP X pins D) X.xe { sx with heap := hA } := by
      intro hq lq hk
      induction hk with
      | nil =>
        intro w0
        refine wpAny_handleBy_nil ?_
        obtain ⟨_, _, _, oB, vB, TB, oTB, tsB, eB, zB, dB, oneB, _⟩ := id flA
        unfold PySem.passOn
        refine wpAny_bind (wpAny_field eB dB oneB ?_)
        rw [if_neg (show ¬ ((Value.ref TB == Value.none) = true) by simp)]
        have out : wpAny (model X.prog X.w) X.A (setFlight (.ref x) X.env.frame) (fun _ t4 => wpAny (model X.prog X.w) X.A (throw (.ref x) : Sem Flow) (SP X pins D) X.xe t4) X.xe { sx with heap := hA } := by
          rw [hf]
          refine HandSPX.setFlight_upZ flA fun hB heldB upB => wpAny_throw (tk _ _ ⟨x, G, sJ, pins, σ1, H1, cls, d, rfl, J, keepB, (upS.trans upA).trans upB, .inr (.inr (by rw [hs]; exact heldB)), free, sameOs, bareS, w0⟩)
        first
          | exact wpAny_bind (wpAny_pure (wpAny_bind out))
          | exact wpAny_bind out
      | @cons xn n c i ts b₀ suite p1 p2 hs2 l2 hc hi hl su rest ih =>
        intro w0
        obtain ⟨b, hexm, yes, no⟩ := w0
        refine wpAny_handleBy_cons (codeAny_handlers_test ?_) (by intro z; cases z)
        have LT : PySem.W.Looks (model X.prog X.w) hA (typeOf (.ref x)) cls := fun A' Q' E' t k q => wpAny_typeOf_ref (k _ _ eA) (by rw [zA.1]; exact q)
        have LM := PySem.W.exm_one (M := model X.prog X.w) JA.kIn LT hexm
        have asked : ∀ {Q : Value → Shared → Prop} {E : Value → Shared → Prop}, Q c { sx with heap := hA } → wpAny (model X.prog X.w) (X.A.mark (some (.ref x))) (eval (.Name xn p1) X.env) Q E { sx with heap := hA } := fun {Q E} q => by
          obtain ⟨hg, hdb, hm | ⟨hm, hv, hn⟩⟩ := hc
          · exact ld_glob (X := X.suite x ((x, oA) :: (X.pn ++ pins))) SA hg hm q hdb
          · exact ld_blt (X := X.suite x ((x, oA) :: (X.pn ++ pins))) SA hg hm hv q hn hdb
        refine asked (LM.here ?_)
        cases b with
        | true =>
          refine codeAny_handlers_suite_as (HandSPX.lands_againZ flA fun hC flC upC => ?_)
          have JC : Inv X pins σ1 H1 { sx with heap := hC } := J.landed keepB flC.1 ((upS.trans upA).trans upC) sameOs bareS
          obtain ⟨oC, vC, eC, zC, dC⟩ := flC.there
          refine store_ok (X := X.suite x ((x, oC) :: (X.pn ++ pins))) (v := .ref x) (JC.suite eC dC free neL neF) hN hi (.inl hl) rfl (fun t5 S5 => ?_) (.inr hl)
          refine wpAny_mono ((su x oC cls d (X.pn ++ pins) zC ⟨_, dC⟩).run [] t5 _ H1 _ S5 (yes rfl x free)) (fun fl t6 got => ?_) (fun _ _ z => False.elim z)
          have bye : ∀ {σ6 : L2.St} {H6 : Hp} {Q : Shared → Prop}, Inv (X.suite x ((x, oC) :: (X.pn ++ pins))) [] σ6 H6 t6 → (∀ t7, Inv X pins (σ6.set i none) H6 t7 → Q t7) →
              wpAny (model X.prog X.w) X.A (do bindName X.env n .none; unbindBehindTheSuite X.env n p2) (fun _ t7 => Q t7) X.xe t6 := fun S6 hq => gone_ok (S6.unsuite OK) hN hi hl hq
          match fl, got with
          | .next, ⟨_, _, S6, q6⟩ => exact bye S6 fun t7 J7 => ⟨_, _, J7, q6⟩
          | .brk, ⟨_, _, S6, q6⟩ => exact bye S6 fun t7 J7 => ⟨_, _, J7, q6⟩
          | .cont, ⟨_, _, S6, q6⟩ => exact bye S6 fun t7 J7 => ⟨_, _, J7, q6⟩
          | .ret u, ⟨_, _, _, S6, r6, q6⟩ => exact bye S6 fun t7 J7 => ⟨_, _, _, J7, r6, q6⟩
        | false =>
          show wpAny _ X.A (handleBy (.ref x) X.env hs2) _ _ _
          exact ih (no rfl)
    exact all hh how
  · match fl, sp with
    | .next, ⟨σ', H', J', q⟩ => exact wpAny_execs_nil ⟨σ', H', J'.ofTry OK, q⟩
    | .brk, ⟨σ', H', J', q⟩ => exact ⟨σ', H', J'.ofTry OK, q⟩
    | .cont, ⟨σ', H', J', q⟩ => exact ⟨σ', H', J'.ofTry OK, q⟩
    | .ret u, ⟨v, σ', H', J', r, q⟩ => exact ⟨v, σ', H', J'.ofTry OK, r, q⟩
end
end TW

namespace TW
open PySem PySem.Spec PyProof.Rows L2
/-! ### w[i] of an own class, which may raise -/
section
variable {X : Cx} {CX : CXT} {k k' : Nat} {C : Addr} {ps : List Str} {sp : Sp} {E : L2.St → XK} {a b : Expr} {ta tb : TE} {pos : Pos}
def tOwnIxS (C : Addr) (sp : Sp) (E : L2.St → XK) (ta tb : TE) : TE := fun σ H Q => ta σ H fun x H1 => tb σ H1 fun y H2 => rOwnIx C sp (E σ) x y H2 Q
theorem run_fn1S {f : Addr} {fd : FuncData} {ds : List Value} {dvs : List V} {pins : List (Addr × Obj)} {σ : L2.St} {H : Hp} {s : Shared} {Q : VK} {us : List Value} {vs : List V} (F : FnOk X.prog X.w X.K X.mg X.base CX k f fd ps sp) (hr : Room k X.A.in1) (hb : Binds X.K fd ps ds) (hd : Vals dvs ds)
    (hx : PassesAt CX X σ (E σ)) (I : Inv X pins σ H s) (r : Vals vs us) (h : sp (vs ++ dvs) H Q (E σ)) : wpAny (model X.prog X.w) X.A.in1 (call (.ref f) us) (EP X pins σ Q) X.xe s := by
  have r2 := r.append hd
  have hl : (us ++ ds).length = ps.length := r2.length.symm.trans (F.len _ _ _ _ h)
  refine wpAny_call (codeAny_mono (F.run X.A.in1 X.stack s H ⟨us, []⟩ (us ++ ds) (vs ++ dvs) Q (E σ) hr I.env0.in1 (hb s us I.kIn hl) r2 h) fun z s' hq => ?_)
  match z, hq with
  | .error e, hq => exact hx pins H s e s' I hq
  | .ok (.ret u), hq => exact I.after hq
theorem pe_ownIxS (D : MethOk X.prog X.w X.K X.mg X.base CX k C "__getitem__" ps [] sp) (hfn : ∀ f, PySem.W.findIn X.K (.ref C) "__getitem__" = some (some (.ref f)) → PySem.W.fnIn X.K f = true) (hr : Room k' X.A) (hx : ∀ σ, PassesAt CX X σ (E σ)) (ha : PE X a ta) (hb : PE X b tb)
    (hk : k + 1 ≤ k' := by decide) (hs : ∀ (x : Addr) (i : Value), subscripted b true (.ref x) i = runValue (.builtin "lifetime.subscript" ⟨[.ref x, i], []⟩) := by intro _ _; with_unfolding_all rfl) : PE X (.Subscript a b pos) (tOwnIxS C sp E ta tb) := by
  obtain ⟨f, fd, ds, hM, hbi, hd, F⟩ := D
  refine ⟨fun pins s σ H Q I h => ?_⟩
  refine Subscript_ (binT ha hb I h fun v u s2 x y H2 I2 rx ry q => ?_)
  obtain ⟨p, d1, f1, i, rfl, rfl, ea, q⟩ := q
  cases rx
  obtain ⟨t, rfl⟩ := ry
  obtain ⟨mA, oA, _, _, _, _⟩ := ins_get I2.hok ea
  obtain ⟨odA, IA, _⟩ := oA.look
  obtain ⟨mf, fr⟩ := I2.fr
  refine PySem.W.sub_K fr I2.ok.mod.kin IA hM.at_ (hfn f hM.at_) hM.fn ?_ (hs p _)
  exact run_fn1S (vs := [.ref p, .int i]) F (hr.mono hk).in1 hbi hd (hx σ) I2 (.cons rfl (.cons ⟨t, rfl⟩ .nil)) q
end
end TW

namespace TW
open PySem PySem.Spec PyProof.Rows L2
/-! ### str(x) by an own __str__ -/
section
variable {X : Cx} {CX : CXT} {k k' : Nat} {C : Addr} {ps : List Str} {sp : Sp} {E : XK} {f : Addr} {fd : FuncData} {ds : List Value} {dvs : List V}
theorem room2 {k : Nat} {A : Around} (r : Room (k + 2) A) : Room k A.in1.in1 := (L2.Room.in1 r).in1
theorem run_fn2 {pins : List (Addr × Obj)} {σ : L2.St} {H : Hp} {s : Shared} {Q : VK} {us : List Value} {vs : List V} (F : FnOk X.prog X.w X.K X.mg X.base CX k f fd ps sp) (hr : Room k X.A.in1.in1) (hb : Binds X.K fd ps ds) (hd : Vals dvs ds)
    (hx : Passes CX X E) (I : Inv X pins σ H s) (r : Vals vs us) (h : sp (vs ++ dvs) H Q E) : wpAny (model X.prog X.w) X.A.in1.in1 (call (.ref f) us) (EP X pins σ Q) X.xe s := by
  have r2 := r.append hd
  have hl : (us ++ ds).length = ps.length := r2.length.symm.trans (F.len _ _ _ _ h)
  refine wpAny_call (codeAny_mono (F.run X.A.in1.in1 X.stack s H ⟨us, []⟩ (us ++ ds) (vs ++ dvs) Q E hr I.env0.in1.in1 (hb s us I.kIn hl) r2 h) fun z s' hq => ?_)
  match z, hq with
  | .error e, hq => exact hx pins σ H s e s' I hq
  | .ok (.ret u), hq => exact I.after hq
def rStrOwn (C : Addr) (sp : Sp) (E : XK) : List V → Hp → VK → Prop := fun xs H Q => ∃ (a d1 : Addr) (f1 : List (Str × V)), xs = [.ref a] ∧ H a = some (.ins C d1 f1) ∧ sp [.ref a] H (fun v H' => ∃ y, v = .str y ∧ Q (.str y) H') E
theorem call_strOwn (D : MethOk X.prog X.w X.K X.mg X.base CX k C "__str__" ps [] sp) (hr : Room k' X.A) (hx : Passes CX X E) (hk : k + 2 ≤ k' := by decide) : CallR X (.type "str") (rStrOwn C sp E) := by
  obtain ⟨f, fd, ds, hM, hb, hd, F⟩ := D
  intro pins s σ H xs us Q I r h
  obtain ⟨a, d1, f1, rfl, ea, q⟩ := h
  cases r with
  | cons rx rr =>
    cases rr
    cases rx
    obtain ⟨mA, oA, _, _, _, _⟩ := ins_get I.hok ea
    obtain ⟨odA, IA, _⟩ := oA.look
    have hr2 := room2 (hr.mono hk)
    refine PySem.W.kso_call (by have := hr2.un; omega) I.kIn IA hM.at_ hM.fn ?_
    refine wpAny_mono (run_fn2 (vs := [.ref a]) F hr2 hb hd hx I (.cons rfl .nil) q) (fun z s' hz => ?_) fun _ _ z => z
    obtain ⟨v', H', I', r', y, rfl, q'⟩ := hz
    obtain ⟨t, rfl⟩ := r'
    exact ⟨.str y, H', I', ⟨t, rfl⟩, q'⟩
end
end TW

namespace TW
open PySem PySem.Spec PyProof.Rows L2
/-! ### C.m(e, ..), m a staticmethod -/
section
variable {X : Cx} {CX : CXT} {k k' : Nat} {C : Addr} {mc : Value} {m : Str} {ps : List Str} {dvs : List V} {sp : Sp} {E : XK} {e o : Expr} {es : List Expr} {ta : TE} {t : TA} {apos pos : Pos}
/-- the record at p, the def at g -/
structure SMet (K : PySem.W.Frag) (C : Addr) (mc : Value) (m : Str) (p g : Addr) : Prop where
  ty : PySem.W.typeIn K (.ref C) = some mc
  rd : PySem.W.readsIn K C mc = true
  ga : PySem.W.specialIn K (.ref C) "__getattribute__" = some (some (.builtin "type.__getattribute__"))
  at_ : PySem.W.findCls K (.ref C) mc m = some (.get (.builtin "staticmethod.__get__") (.ref p) .none (.ref C))
  rc : ∃ rest, PySem.W.recIn K p "staticmethod" = some (.ref g :: rest)
  kp : PySem.W.keepIn K (.ref g) = true
def StatOk (P : Program) (w : World) (K : PySem.W.Frag) (mg : Str → Option Value) (base : Heap) (CX : CXT) (k : Nat) (C : Addr) (m : Str) (ps : List Str) (dvs : List V) (sp : Sp) : Prop :=
  ∃ (mc : Value) (p g : Addr) (fd : FuncData) (ds : List Value), SMet K C mc m p g ∧ Binds K fd ps ds ∧ Vals dvs ds ∧ FnOk P w K mg base CX k g fd ps sp
def tStat (C : Addr) (sp : Sp) (dvs : List V) (E : XK) (ta : TE) (t : TA) : TE := fun σ H Q => ta σ H fun x H1 => x = .ref C ∧ t σ H1 fun vs H2 => sp (vs ++ dvs) H2 Q E
theorem pe_stat {pl : Sem Bool} (D : StatOk X.prog X.w X.K X.mg X.base CX k C m ps dvs sp) (hr : Room k' X.A) (hx : Passes CX X E) (he : PE X o ta) (ha : PA X (e :: es) t) (hk : k ≤ k' := by decide)
    (hst : starEach (e :: es) X.env = (false, eval e X.env) :: starEach es X.env := by rfl) (hpl : (backTo pos (starEach es X.env)).any (·.1) = false := by rfl)
    (ht : eval (.Call (.Attribute o m apos) (e :: es) [] pos) X.env = (do
      let ov ← eval o X.env
      standAt apos.atName
      let (f, first) ← holding [ov] (getMethod ov m pl)
      callWith pos f first (backTo pos (starEach (e :: es) X.env)) (backToKw pos (keywordEach [] X.env))) := by rfl) :
    PE X (.Call (.Attribute o m apos) (e :: es) [] pos) (tStat C sp dvs E ta t) := by
  obtain ⟨mc, p, g, fd, ds, c, hb, hd, F⟩ := D
  refine ⟨fun pins s σ H Q I h => ?_⟩
  refine PySem.W.methodCall_KW (pl := pl) (thn (he.run pins s σ H _ I h) fun u s1 ⟨x, H1, I1, rx, ex, q⟩ => ?_) ht
  subst ex
  obtain rfl : u = Value.ref C := rx
  obtain ⟨rest, hp⟩ := c.rc
  obtain ⟨mf, fr⟩ := I1.fr
  refine PySem.W.method_cls I1.kIn c.ga (PySem.W.cls_sm fr I1.ok.mod.kin c.ty c.rd c.at_ hp rfl ?_)
  refine PySem.W.callWith_K (h₀ := X.base) I1.ok.mod.kin c.kp (thn (ha.run pos pins _ σ H1 _ (I1.tok _) q) fun us s2 ⟨vs, H2, I2, rv, q2⟩ => ⟨I2.kIn, ?_⟩) hst hpl
  exact run_fn F (hr.mono hk) hb hd hx I2 rv q2
end
end TW

namespace TW
open PySem PySem.Spec PyProof.Rows L2
/-! ### a dict comprehension over any walk -/
section
variable {J : It} {n : Nat} {G : Hp → Prop} {Y : Nat → Hp → V → Hp → Prop}
theorem dc_walk (w : Walk J n G Y) {g : TG} {tt : TT} {tk tv : TE} {vs : List Nat} {σ : L2.St} {H1 : Hp} {D : Addr} {Qd : Hp → Prop} (Pv : Nat → Hp → Prop) (start : Pv 0 (upd H1 D (.dK []))) (hG : ∀ i H, i ≤ n → Pv i H → G H)
    (step : ∀ i x H H', i < n → Pv i H → Y i H x H' → g x (wipe σ vs) H' fun σ2 H2 => wipe σ2 vs = wipe σ vs ∧ tt σ2 H2 fun b H3 =>
      if b = true then tk σ2 H3 fun y H4 => tv σ2 H4 fun z H5 => ∃ kvs k, y = kV k ∧ H5 D = some (.dK kvs) ∧ kvs.length < sizeLine ∧ Pv (i + 1) (upd H5 D (.dK (putK kvs k z))) else Pv (i + 1) H3) (done : ∀ H, Pv n H → Qd H) :
    ∃ W : Nat → Nat → Hp → Prop, (∃ m, W 0 m (upd H1 D (.dK []))) ∧ ∀ i m H, W i m H →
      (J.stop i H ∧ Qd H) ∨ (J.go i H ∧ ∃ Nx : Hp → Prop, (∀ H', Nx H' → ∃ m', m' < m ∧ W (i + 1) m' H') ∧ ∀ x H', J.yld i H x H' → g x (wipe σ vs) H' fun σ2 H2 => wipe σ2 vs = wipe σ vs ∧ tt σ2 H2 fun b H3 =>
        if b = true then tk σ2 H3 fun y H4 => tv σ2 H4 fun z H5 => ∃ kvs k, y = kV k ∧ H5 D = some (.dK kvs) ∧ kvs.length < sizeLine ∧ Nx (upd H5 D (.dK (putK kvs k z))) else Nx H3) := by
  refine ⟨fun i m H => m = n - i ∧ i ≤ n ∧ Pv i H, ⟨n, by simp, Nat.zero_le _, start⟩, ?_⟩
  rintro i m H ⟨em, le, pv⟩
  subst em
  rcases Nat.lt_or_ge i n with lt | ge
  · exact .inr ⟨w.goes i H lt (hG i H le pv), Pv (i + 1), fun H' pv' => ⟨n - (i + 1), by omega, rfl, lt, pv'⟩, fun x H' y => step i x H H' lt pv (w.yields i H x H' lt (hG i H le pv) y)⟩
  · have ei : i = n := by omega
    subst ei
    exact .inl ⟨w.stops H (hG i H le pv), done H pv⟩
end
end TW

namespace TW
open PySem PySem.Spec PyProof.Rows L2
/-! ### len(set(xs)), xs a list of texts, some of them alike -/
/-- how many unlike ones a list has, told beside its length -/
def Unl (xs : List Str) (c : Nat) : Prop := c ≤ xs.length ∧ (c = xs.length ↔ xs.Nodup)
theorem unl_nil : Unl [] 0 := ⟨Nat.le_refl _, ⟨fun _ => List.nodup_nil, fun _ => rfl⟩⟩
theorem unl_old {xs : List Str} {c : Nat} {x : Str} (u : Unl xs c) (h : x ∈ xs) : Unl (xs ++ [x]) c := by
  refine ⟨by rw [List.length_append]; exact Nat.le_trans u.1 (Nat.le_add_right _ _), ⟨fun e => ?_, fun nd => ?_⟩⟩
  · have := u.1
    rw [e, List.length_append, List.length_singleton] at this
    omega
  · exact absurd rfl ((List.nodup_append.mp nd).2.2 x h x List.mem_cons_self)
theorem unl_new {xs : List Str} {c : Nat} {x : Str} (u : Unl xs c) (h : x ∉ xs) : Unl (xs ++ [x]) (c + 1) := by
  refine ⟨by rw [List.length_append, List.length_singleton]; exact Nat.succ_le_succ u.1, ?_⟩
  rw [List.length_append, List.length_singleton]
  constructor
  · intro e
    refine List.nodup_append.mpr ⟨u.2.mp (by omega), List.pairwise_singleton _ _, fun a ha b hb e2 => ?_⟩
    rw [List.mem_singleton.mp hb] at e2
    exact h (e2 ▸ ha)
  · intro nd
    rw [u.2.mpr (List.nodup_append.mp nd).1]
section
variable {prog : Program} {w : World} {A : Around}
/-- the set at S holds the texts xs, c unlike ones -/
def TxSet (prog : Program) (w : World) (h : Heap) (S : Addr) (xs : List Str) : Prop := ∃ c, Unl xs c ∧ h.SetOf (PySem.strKind prog w) S (fun k => decide (k ∈ xs)) c
theorem TxSet.keep {h h' : Heap} {S : Addr} {xs : List Str} (t : TxSet prog w h S xs) (k : ∀ o, h.get? S = some o → h'.get? S = some o) : TxSet prog w h' S xs := by
  obtain ⟨c, u, o, es, ep, tb, ho, more⟩ := t
  exact ⟨c, u, o, es, ep, tb, k o ho, more⟩
theorem grow_texts {R : Result → Shared → Prop} {I S : Addr} {fp wr : List Addr} {G : Array GenState → Array GenState → Prop} {n : Nat} {Pv : Nat → Value → Prop} {St : Nat → Shared → Prop} {xs : List Str}
    (W : WalksS prog w A.in1 I fp wr G n Pv St) (away : S ∉ fp) (len : xs.length = n) (few : n + 1 < scanBound) (told : ∀ i v, Pv i v → ∃ t, v = .str (xs.getD i Str.empty) t) (left : Nat) :
    ∀ (i : Nat) (s : Shared), n = i + left → St i s → TxSet prog w s.heap S (xs.take i) → (∀ s', Moved (S :: wr) G s s' → TxSet prog w s'.heap S xs → R (.ok (.ret .none)) s') →
      codeAny (model prog w) A (.builtin "set.update.loop" ⟨[.ref S, .ref I], []⟩) R s := by
  have apart : S ∉ wr := fun h => away (W.sub _ h)
  have wider : ∀ b ∈ wr, b ∈ S :: wr := fun _ hb => List.mem_cons_of_mem _ hb
  induction left with
  | zero =>
    intro i s hn st tx fin
    have en : i = n := by omega
    have ex : xs.take i = xs := List.take_of_length_le (by omega)
    subst en
    rw [ex] at tx
    refine codeAny_builtin F.entry_set_update_loop (by
      rw [Around.under_plainId F.plain_set_update_loop _]
      refine (wpAny_bind (W.done s _ _ st fun s' mv => ?_) : wpAny (model prog w) A.in1 (pyNext (.ref I) >>= _) _ _ s)
      show wpAny (model prog w) A.in1 (ret .none) _ _ s'; exact wpAny_pure (fin s' (mv.mono wider) (tx.keep fun o e => mv.heap S o apart e)))
  | succ left ih =>
    intro i s hn st tx fin
    have lt : i < n := by omega
    refine codeAny_builtin F.entry_set_update_loop (by
      rw [Around.under_plainId F.plain_set_update_loop _]
      refine (wpAny_bind (W.item i s _ _ lt st fun v s' pv st' mv => ?_) : wpAny (model prog w) A.in1 (pyNext (.ref I) >>= _) _ _ s)
      obtain ⟨t, rfl⟩ := told i v pv
      have tx' := tx.keep (h' := s'.heap) fun o e => mv.heap S o apart e
      obtain ⟨c, u, so⟩ := tx'
      obtain ⟨x, hx⟩ : ∃ x, xs[i]? = some x := ⟨_, List.getElem?_eq_getElem (by omega)⟩
      have gx : xs.getD i Str.empty = x := by rw [List.getD_eq_getElem?_getD, hx]; rfl
      have tk : xs.take (i + 1) = xs.take i ++ [x] := by rw [List.take_add_one, hx]; rfl
      rw [gx]
      have cn : c + 1 < scanBound := by
        have a := u.1
        rw [List.length_take] at a
        omega
      refine (wpAny_bind (wpAny_holding ?_) : wpAny (model prog w) A.in1 (holding [Value.str x t] (setAdd S (.str x t)) >>= _) _ _ s')
      unfold setAdd
      refine wpAny_holding (wpAny_bind ((PySem.strKind prog w).pyHash (k := x) (strKind_is _ _ _ _) ?_))
      refine wpAny_setAddHashed_of (knd := PySem.strKind prog w) (s := { s' with toks := s'.toks + 1 }) (strKind_is _ _ _ _) rfl so cn fun h' but so2 => ?_
      have next : TxSet prog w h' S (xs.take (i + 1)) := by
        have same : ∀ k, (decide (k ∈ xs.take i) || decide (k = x)) = decide (k ∈ xs.take (i + 1)) := fun k => by
          rw [tk]
          simp [List.mem_append]
        by_cases m : x ∈ xs.take i
        · refine ⟨c, by rw [tk]; exact unl_old u m, PyProof.Rows.SetOf_congr so2 same ?_⟩
          rw [if_pos (decide_eq_true m)]
        · refine ⟨c + 1, by rw [tk]; exact unl_new u m, PyProof.Rows.SetOf_congr so2 same ?_⟩
          rw [if_neg (by rw [decide_eq_false m]; exact Bool.noConfusion)]
      have go := ih (i + 1) { s' with heap := h', toks := s'.toks + 1 } (by omega) (W.frame _ s' _ _ st' (Nat.le_succ _) fun b hb o e => by rw [but.2 b fun q : b = S => away (q ▸ hb)]; exact e) next fun s'' mv2 tx2 =>
        fin s'' (Moved.trans W.gtrans ((mv.mono wider).then_heap (Nat.le_succ _) fun b o hb e => by rw [but.2 b fun q : b = S => hb (q ▸ List.mem_cons_self)]; exact e) mv2) tx2
      exact wpAny_pure ⟨plainId_quiet F.plain_set_update_loop _, go⟩)
/-- a new set, as set() lays it -/
abbrev newSet (led : Bool) : Obj := { cls := .type "set", dict := none, data := .set #[] 0 (.fresh 0 0 led) }
variable {E : Value → Shared → Prop} {s : Shared}
set_option maxHeartbeats 3200000 in
theorem set_of_texts {l : Addr} {its : Array Value} {xs : List Str} {Q : Value → Shared → Prop} (calm : A.handled = none) (hl : s.heap.IsList l its) (hx : StrsAre its.toList xs) (few : xs.length + 1 < scanBound)
    (q : ∀ (h' : Heap) (tk : Nat), TxSet prog w h' s.heap.objs.size xs → (∀ b o, b < s.heap.objs.size → s.heap.get? b = some o → h'.get? b = some o) → Q (.ref s.heap.objs.size) { s with heap := h', toks := tk }) :
    wpAny (model prog w) A (call (.type "set") [.ref l]) Q E s := by
  have len : xs.length = its.size := by rw [← StrsAre.len_eq hx, Array.length_toList]
  obtain ⟨cm, tm, hmro⟩ := PySem.F.called_set.mro
  have b1 := PySem.F.called_set.made; have b2 := PySem.F.called_set.sub; have b3 := PySem.F.called_set.notType; have b4 := PySem.F.called_set.canCreate; have b5 := PySem.F.typeCall_set_1 (.ref l)
  refine wpAny_call (codeAny_of_tree (show wpAny _ _ (callAny (.type "set") _) _ _ _ from wpAny_pure ⟨Code.quiet_builtin _ (by decide +kernel), codeAny_builtin PySem.F.entry_type_call ?_⟩))
  rw [Around.under_plain (weight_type_call_type "set" [.ref l] []) rfl]
  repeat (any_goals (first | assumption | wp_step))
  have made := code_set_new_1 (prog := prog) (w := w) (A := A.in1) (s := s) (.ref l) (E := E) (Q₁ := fun v s1 => ∃ led, v = .ref s.heap.objs.size ∧ s1 = { s with heap := s.heap.push (newSet led) }) fun led => ⟨led, rfl, rfl⟩
  refine codeAny_mono made fun r s1 hr => ?_
  match r, hr with
  | .error e, hr => exact hr
  | .ok (.ret v), ⟨led, e1, e2⟩ =>
    subst e1 e2
    have at0 : (s.heap.push (newSet led)).get? s.heap.objs.size = some (newSet led) := Heap.get?_push_size _ rfl
    have ty0 : Shared.TypeIs { s with heap := s.heap.push (newSet led) } (.ref s.heap.objs.size) "set" := ⟨_, at0, rfl⟩
    have c1 := PySem.F.called_set.init.lookup; have c2 := PySem.F.called_set.init.bind (.ref s.heap.objs.size)
    repeat (any_goals (first | assumption | wp_step))
    have done_ : codeAny (model prog w) A.in1 (.call (.builtin "set.__init__") ⟨[.ref s.heap.objs.size, .ref l], []⟩)
        (wants (fun v s2 => v = .none ∧ ∃ h' tk, s2 = { s with heap := h', toks := tk } ∧ TxSet prog w h' s.heap.objs.size xs ∧ ∀ b o, b < s.heap.objs.size → s.heap.get? b = some o → h'.get? b = some o) E) { s with heap := s.heap.push (newSet led) } := by
      refine codeAny_call_builtin PySem.F.called_set.init.plain PySem.F.entry_set_init (check_set_init_1 ty0 ?_)
      obtain ⟨⟨ocl, odi, oda, osl⟩, hol, hcl, ln, hdl⟩ := id hl
      simp only at hcl hdl
      subst hcl hdl
      have ol := Heap.get?_push_of_some (newSet led) hol
      have il : (s.heap.push (newSet led)).IsList l its := ⟨_, ol, rfl, ln, rfl⟩
      have d1 := PySem.F.sub_list_set; have d2 := PySem.F.sub_list_frozenset; have d3 : (Value.type "list" == Value.type "dict") = false := by decide
      have ls : l < s.heap.objs.size := Heap.lt_size hol
      have ll : l ≠ (s.heap.push (newSet led)).objs.size := by rw [Heap.size_push]; exact Nat.ne_of_lt (Nat.lt.step ls)
      have away : s.heap.objs.size ∉ [(s.heap.push (newSet led)).objs.size, l] := by
        rw [Heap.size_push]
        simp only [List.mem_cons, List.not_mem_nil, or_false, not_or]
        exact ⟨Nat.ne_of_lt (Nat.lt.base _), (Nat.ne_of_lt ls).symm⟩
      have quiet3 : A.in1.in1.in1.handled = none := by simp [calm]
      unfold Builtin.«set.__init__» noKeywords Builtin.Frozenset.updateFrom
      generalize asked : pyIter = PI
      wp_walk
      subst asked
      have told : ∀ (i : Nat) (v : Value), its[i]? = some v → ∃ t, v = .str (xs.getD i Str.empty) t := fun i v hv => SS.strs_at hx i v (Array.getElem?_toList.trans hv)
      refine wpAny_pyIter_list il (wpAny_bind (wpAny_runValue (grow_texts (S := s.heap.objs.size) (Walks.list quiet3 _ l ll its).toS away len (by rw [← len]; exact few) told its.size 0 _ (Nat.zero_add _).symm ⟨⟨_, Heap.get?_push_size _ rfl, rfl, rfl⟩, il.push _⟩ ?_ fun s' mv tx => ?_)))
      · refine ⟨0, unl_nil, PyProof.Rows.SetOf_congr ((setObjOf_fresh (knd := PySem.strKind prog w) led).setOf (Heap.get?_push_of_some _ at0) (by unfold scanBound; omega)) (fun k => ?_) rfl⟩
        simp
      · obtain ⟨hs, gs, ds, ts, os⟩ := s'
        have m1 : gs = s.gens := mv.gens; have m2 : ds = s.drawn := mv.drawn; have m3 : os = s.os := mv.os
        subst m1 m2 m3
        show wpAny _ _ _ _ _ _
        refine wpAny_pure (show wpAny _ _ (ret Value.none) _ _ _ from wpAny_pure ⟨rfl, hs, ts, rfl, tx, fun b o hb e => mv.heap b o ?_ (Heap.get?_push_of_some _ (Heap.get?_push_of_some _ e))⟩)
        simp only [Heap.size_push, List.mem_cons, List.not_mem_nil, or_false, not_or]
        exact ⟨Nat.ne_of_lt hb, Nat.ne_of_lt (Nat.lt.step hb)⟩
    refine codeAny_mono done_ fun r2 s2 hr2 => ?_
    match r2, hr2 with
    | .error e, hr2 => exact hr2
    | .ok (.ret v), ⟨e1, h', tk, e2, tx, keep⟩ =>
      subst e1 e2
      repeat (any_goals (first | assumption | wp_step))
      exact q h' tk tx keep
end
end TW

namespace TW
open PySem PySem.Spec PyProof.Rows L2
section
variable {X : Cx}
/-- len(set(xs)), xs a list of texts -/
def tLenSetS (K : PySem.W.Frag) (ta : TE) : TE := fun σ H Q => ta σ H fun x H1 => ∃ (l : Addr) (xs : List Str), x = .ref l ∧ SqL K H1 l (xs.map V.str) ∧ xs.length + 1 < 4096 ∧ ∀ c, Unl xs c → Q (.int (c : Nat)) H1
theorem pe_lenSetS {a : Expr} {ta : TE} {p p2 q pos : Pos} (hc : X.calm = true) (hg : Gl X "len") (hm : X.mg "len" = none) (hg2 : Gl X "set") (hm2 : X.mg "set" = none) (ha : PE X a ta)
    (na : starEach [a] X.env = (false, eval a X.env) :: starEach [] X.env := by rfl) : PE X (.Call (.Name "len" p) [.Call (.Name "set" p2) [a] [] q] [] pos) (tLenSetS X.K ta) := by
  refine ⟨fun pins s σ H Q I h => Call_ (ld_blt I hg hm boot_len (PyProof.Rows.callWith_builtin1 (PyProof.Rows.args_cons (Call_ (ld_blt I hg2 hm2 boot_set (PyProof.Rows.callWith_type1 (PyProof.Rows.args_cons ?_ na) na rfl))) rfl) rfl rfl))⟩
  refine thn (ha.run pins s σ H _ I h) fun v s1 ⟨x, H1, I1, r1, l, xs, ex, hq, few, q1⟩ => PyProof.Rows.args_nil ?_
  subst ex
  cases r1
  obtain ⟨its, r, pl, _⟩ := I1.list hq
  refine set_of_texts (I1.ok.hd hc) pl.isList (by simpa using strsAre_of r) few fun h' tk tx keep => PyProof.Rows.args_nil ?_
  obtain ⟨c, u, o, es, ep, t, ho, hex, hd, _, _, _, hf, hn⟩ := tx
  have I2 : Inv X pins σ H1 { s1 with heap := h', toks := tk } := I1.kept fun b o e => keep b o (Heap.lt_size e) e
  have cl := u.1
  exact call_len_set ho hex hd hf (by unfold scanBound at *; omega) ⟨.int (c : Nat), H1, I2.tok _, ⟨_, by rw [hn]⟩, q1 c u⟩
end
end TW

namespace TW
open PySem PySem.Spec PyProof.Rows L2
/-! ### the inner walk of a comprehension of two -/
section
variable {J : It} {n : Nat} {G : Hp → Prop} {Y : Nat → Hp → V → Hp → Prop}
theorem in_walk (w : Walk J n G Y) {g : TG} {tt : TT} {te : TE} {vs : List Nat} {σ : L2.St} {H4 : Hp} {D : Addr} {Nx : Hp → Prop} (Pv : Nat → Hp → Prop) (start : Pv 0 H4) (hG : ∀ j H, j ≤ n → Pv j H → G H)
    (step : ∀ j x H H', j < n → Pv j H → Y j H x H' → g x (wipe σ vs) H' fun σ3 H5 => wipe σ3 vs = wipe σ vs ∧ tt σ3 H5 fun b H6 =>
      if b = true then te σ3 H6 fun y H7 => ∃ acc, H7 D = some (.lst acc) ∧ acc.length < sizeLine ∧ Pv (j + 1) (upd H7 D (.lst (acc ++ [y]))) else Pv (j + 1) H6) (done : ∀ H, Pv n H → Nx H) :
    ∃ W1 : Nat → Nat → Hp → Prop, (∃ m, W1 0 m H4) ∧ ∀ j k H, W1 j k H →
      (J.stop j H ∧ Nx H) ∨ (J.go j H ∧ ∃ Nx1 : Hp → Prop, (∀ H', Nx1 H' → ∃ k', k' < k ∧ W1 (j + 1) k' H') ∧ ∀ x H', J.yld j H x H' → g x (wipe σ vs) H' fun σ3 H5 => wipe σ3 vs = wipe σ vs ∧ tt σ3 H5 fun b H6 =>
        if b = true then te σ3 H6 fun y H7 => ∃ acc, H7 D = some (.lst acc) ∧ acc.length < sizeLine ∧ Nx1 (upd H7 D (.lst (acc ++ [y]))) else Nx1 H6) := by
  refine ⟨fun j m H => m = n - j ∧ j ≤ n ∧ Pv j H, ⟨n, by simp, Nat.zero_le _, start⟩, ?_⟩
  rintro j m H ⟨em, le, pv⟩
  subst em
  rcases Nat.lt_or_ge j n with lt | ge
  · exact .inr ⟨w.goes j H lt (hG j H le pv), Pv (j + 1), fun H' pv' => ⟨n - (j + 1), by omega, rfl, lt, pv'⟩, fun x H' y => step j x H H' lt pv (w.yields j H x H' lt (hG j H le pv) y)⟩
  · have ej : j = n := by omega
    subst ej
    exact .inl ⟨w.stops H (hG j H le pv), done H pv⟩
theorem in_list {K : PySem.W.Frag} {a : Addr} {xs : List V} {g : TG} {tt : TT} {te : TE} {vs : List Nat} {σ : L2.St} {H4 : Hp} {D : Addr} {Nx : Hp → Prop} (Pv : Nat → Hp → Prop) (start : Pv 0 H4) (hG : ∀ j H, j ≤ xs.length → Pv j H → SqL K H a xs)
    (step : ∀ j x H, xs[j]? = some x → Pv j H → g x (wipe σ vs) H fun σ3 H5 => wipe σ3 vs = wipe σ vs ∧ tt σ3 H5 fun b H6 =>
      if b = true then te σ3 H6 fun y H7 => ∃ acc, H7 D = some (.lst acc) ∧ acc.length < sizeLine ∧ Pv (j + 1) (upd H7 D (.lst (acc ++ [y]))) else Pv (j + 1) H6) (done : ∀ H, Pv xs.length H → Nx H) :
    ∃ W1 : Nat → Nat → Hp → Prop, (∃ m, W1 0 m H4) ∧ ∀ j k H, W1 j k H →
      ((Itl K a).stop j H ∧ Nx H) ∨ ((Itl K a).go j H ∧ ∃ Nx1 : Hp → Prop, (∀ H', Nx1 H' → ∃ k', k' < k ∧ W1 (j + 1) k' H') ∧ ∀ x H', (Itl K a).yld j H x H' → g x (wipe σ vs) H' fun σ3 H5 => wipe σ3 vs = wipe σ vs ∧ tt σ3 H5 fun b H6 =>
        if b = true then te σ3 H6 fun y H7 => ∃ acc, H7 D = some (.lst acc) ∧ acc.length < sizeLine ∧ Nx1 (upd H7 D (.lst (acc ++ [y]))) else Nx1 H6) :=
  in_walk (walk_list (K := K) (a := a) (xs := xs)) Pv start hG (fun j x H H' _ pv y => by
    obtain ⟨e, hx⟩ := y
    subst e
    exact step j x H' hx pv) done
/-- the outer walk, whatever is done in a turn -/
theorem out_list {K : PySem.W.Frag} {a : Addr} {xs : List V} {g : TG} {tt : TT} {vs : List Nat} {σ : L2.St} {H0 : Hp} {Qd : Hp → Prop} {B : L2.St → Hp → (Hp → Prop) → Prop} (Pv : Nat → Hp → Prop) (start : Pv 0 H0) (hG : ∀ i H, i ≤ xs.length → Pv i H → SqL K H a xs)
    (step : ∀ i x H, xs[i]? = some x → Pv i H → g x (wipe σ vs) H fun σ2 H2 => wipe σ2 vs = wipe σ vs ∧ tt σ2 H2 fun b H3 => if b = true then B σ2 H3 (Pv (i + 1)) else Pv (i + 1) H3) (done : ∀ H, Pv xs.length H → Qd H) :
    ∃ W : Nat → Nat → Hp → Prop, (∃ m, W 0 m H0) ∧ ∀ i m H, W i m H →
      ((Itl K a).stop i H ∧ Qd H) ∨ ((Itl K a).go i H ∧ ∃ Nx : Hp → Prop, (∀ H', Nx H' → ∃ m', m' < m ∧ W (i + 1) m' H') ∧ ∀ x H', (Itl K a).yld i H x H' → g x (wipe σ vs) H' fun σ2 H2 => wipe σ2 vs = wipe σ vs ∧ tt σ2 H2 fun b H3 =>
        if b = true then B σ2 H3 Nx else Nx H3) := by
  have w := walk_list (K := K) (a := a) (xs := xs)
  refine ⟨fun i m H => m = xs.length - i ∧ i ≤ xs.length ∧ Pv i H, ⟨xs.length, by simp, Nat.zero_le _, start⟩, ?_⟩
  rintro i m H ⟨em, le, pv⟩
  subst em
  rcases Nat.lt_or_ge i xs.length with lt | ge
  · refine .inr ⟨w.goes i H lt (hG i H le pv), Pv (i + 1), fun H' pv' => ⟨xs.length - (i + 1), by omega, rfl, lt, pv'⟩, fun x H' y => ?_⟩
    obtain ⟨e, hx⟩ := w.yields i H x H' lt (hG i H le pv) y
    subst e
    exact step i x H' hx pv
  · have ei : i = xs.length := by omega
    subst ei
    exact .inl ⟨w.stops H (hG _ H le pv), done H pv⟩
end
end TW

namespace TW
open PySem PySem.Spec PyProof.Rows L2 L2H HotX
/-! ### try .. except (A, B): raise .. from None, where what flies was raised with nothing handled -/
theorem flyingZ_push {B h : Heap} {l : List Env} {a : Addr} {Z : Obj → Prop} (x : HandSPX.FlyingZ B l a Z h) (o : Obj) : HandSPX.FlyingZ B l a Z (h.push o) := by
  obtain ⟨k1, k2, k3, oe, vs, T, oT, ts, he, hz, hd, h1, hT, hTe, gT, dT, h3⟩ := x
  exact ⟨fun b u e => Heap.get?_push_of_some _ (k1 b u e), k2, k3.of_keeps fun b u e _ => ⟨u, Heap.get?_push_of_some _ e, rfl⟩, oe, vs, T, oT, ts, Heap.get?_push_of_some _ he, hz, hd, h1, hT, hTe, Heap.get?_push_of_some _ gT, dT, h3⟩
/-- what the clause wishes: one of both, and its suite -/
def wTup2 (K : PySem.W.Frag) (c1 c2 : Value) (ts : Addr → Value → Option Addr → TS) (D : Ends) : WX := fun cls d σ H =>
  PySem.W.exmAny K cls [c1, c2] = some true ∧ ∀ a, H a = none → ts a cls d D σ H
section
variable {X : Cx} {x1 x2 : Str} {c1 c2 : Value} {body suite : List Stmt} {b₀ : Stmt} {p1 p2 tpos pos pos' : Pos} {kk : Nat} {tb : WX → TS} {ts : Addr → Value → Option Addr → TS} {Wout : WX}
theorem ps_try_tup2X (hs : X.stack = X.env :: X.outer) (hf : X.env.frame = some X.env.locals) (hc1 : Names X x1 c1) (hc2 : Names X x2 c2) (hpa : ∀ hd : Option Value, PassesOwnAt (model X.prog X.w) (X.A.mark hd) X.A X.env X.xe) (tk : L2.Takes X Wout)
    (hb : ∀ (W : WX) (pn : List (Addr × Obj)) (xe : Value → Shared → Prop), L2N.Takes (X.tr pn xe) W → PassesOwn (model X.prog X.w) X.A X.env xe → PSs (X.tr pn xe) body (tb W))
    (hsu : ∀ (a : Addr) (oe : Obj) (cls : Value) (d : Option Addr) (pn : List (Addr × Obj)), L2N.Zn cls d oe → (∃ vs, oe.data = .fields vs) → L2.Takes (suiteX X a ((a, oe) :: pn)) Wout → HotC (suiteX X a ((a, oe) :: pn)) →
      PSs (suiteX X a ((a, oe) :: pn)) (b₀ :: suite) (ts a cls d)) :
    PS X (.Try body [.ExceptHandler (some (.Tuple [.Name x1 p1, .Name x2 p2] kk tpos)) none (b₀ :: suite) pos'] [] [] pos) (fun D σ H => tb (wTup2 X.K c1 c2 ts D) D σ H) := by
  refine ⟨fun pins s σ H D I h => ?_⟩
  have ok := I.ok
  have hfr : X.A.frames = some (X.env :: X.outer) := by rw [ok.frames, hs]
  have notFr : ∀ {B h : Heap} {a : Addr} {o : Obj} {vs : Array Value}, h.FunFrames B (X.env :: X.outer) → h.get? a = some o → o.data = .fields vs → a ∉ frs (X.env :: X.outer) := fun {B h a o vs} ff e dd hm => by
    obtain ⟨_, o', e', hnf⟩ := ff.mem hm
    rw [e] at e'; cases e'
    exact hnf _ dd
  refine wpAny_Try_except ?_
  refine wpAny_mono ((hb (wTup2 X.K c1 c2 ts D) (X.pn ++ pins) (fun e s₁ => wpAny (model X.prog X.w) X.A (noteFrame e X.env) (fun _ s₂ => wpAny (model X.prog X.w) X.A (setFlight e none) (fun _ s₃ =>
    wpAny (model X.prog X.w) X.A (handleBy e X.env [.ExceptHandler (some (.Tuple [.Name x1 p1, .Name x2 p2] kk tpos)) none (b₀ :: suite) pos']) (SP X pins D) X.xe s₃) X.xe s₂) X.xe s₁) (fun u s' xx => ?_) PassesOwn.looking).run [] s σ H D (I.toTry _) h) (fun f s1 hsp => ?_) (fun e s1 he => he)
  · obtain ⟨a, B, sI, pins', σ', H', cls, d, rfl, J', nb, up, sky, na, os, ag, hb1, hyes⟩ := xx
    have J : Inv X pins σ' H' sI := J'.ofTry ok
    have sky' : L2.Sky B (X.env :: X.outer) a (L2N.Zn cls d) X.env.locals s'.heap := by rw [← hs]; exact sky
    show wpAny (model X.prog X.w) X.A (noteFrame (.ref a) X.env) _ _ _
    refine L2N.Sky.land L2N.Zn.steady hfr hf sky' fun h3 fl3 up3 => ?_
    have J3 : Inv X pins σ' H' { s' with heap := h3 } := J.landed nb fl3.1 (up.trans up3) os ag
    obtain ⟨oe3, vs3, he3, hz3, hd3⟩ := fl3.there
    have nfr : a ∉ frs (X.env :: X.outer) := notFr fl3.2.2.1 he3 hd3
    have nL : a ≠ X.env.locals := fun z => nfr (List.mem_filterMap.mpr ⟨X.env, List.mem_cons_self, by rw [hf, z]⟩)
    have nF : a ∉ X.fs := fun hm => by
      obtain ⟨e, he, q⟩ := List.mem_filterMap.mp hm
      exact nfr (List.mem_filterMap.mpr ⟨e, List.mem_cons_of_mem _ he, q⟩)
    have S3 := J3.suite he3 hd3 na nL nF
    refine wpAny_handleBy_cons (codeAny_handlers_test ?_) (by intro q; cases q)
    have test : ∀ {x : Str} {c : Value} {np : Pos} {Q : Value → Shared → Prop} {E : Value → Shared → Prop}, Names X x c → Q c { s' with heap := h3 } → wpAny (model X.prog X.w) (X.A.mark (some (.ref a))) (eval (.Name x np) X.env) Q E { s' with heap := h3 } := fun {x c np Q E} hc q => by
      obtain ⟨hg, hdbg, hm | ⟨hm, hv, hnn⟩⟩ := hc
      · exact ld_glob (X := X.suite a ((a, oe3) :: (X.pn ++ pins))) S3 hg hm q hdbg
      · exact ld_blt (X := X.suite a ((a, oe3) :: (X.pn ++ pins))) S3 hg hm hv q hnn hdbg
    refine Tuple_ (spliced_more (test hc1 (spliced_more (test hc2 (spliced_none ?_)))))
    refine wpAny_newObj_type ?_ (by show 2 ≤ sizeLine; decide)
    generalize hto : ({ cls := .type "tuple", data := .seq [c1, c2].toArray } : Obj) = to
    have fl3' : HandSPX.FlyingZ B (X.env :: X.outer) a (L2N.Zn cls d) (h3.push to) := flyingZ_push fl3 to
    have up3' : s'.heap.UpToSlots (h3.push to) := up3.trans (Heap.UpToSlots.of_keeps fun b o e => Heap.get?_push_of_some _ e)
    have J3' : Inv X pins σ' H' { s' with heap := h3.push to } := J.landed nb fl3'.1 (up.trans up3') os ag
    have LT : PySem.W.Looks (model X.prog X.w) (h3.push to) (typeOf (.ref a)) cls := fun A Q E s k q => wpAny_typeOf_ref (k _ _ (Heap.get?_push_of_some _ he3)) (by rw [hz3.1]; exact q)
    have LM := PySem.W.exm_tup2 (M := model X.prog X.w) J3'.kIn LT (tp := h3.objs.size) (by rw [← hto]; exact Heap.get?_push_size h3 rfl) hb1
    refine LM.here ?_
    refine codeAny_handlers_suite ?_
    refine HandSPX.lands_againZ fl3' fun h4 fl4 up4 => ?_
    have J4 : Inv X pins σ' H' { s' with heap := h4 } := J.landed nb fl4.1 ((up.trans up3').trans up4) os ag
    obtain ⟨oe4, vs4, he4, hz4, hd4⟩ := fl4.there
    have S4 := J4.suite he4 hd4 na nL nF
    have tkS : L2.Takes (suiteX X a ((a, oe4) :: (X.pn ++ pins))) Wout := fun u2 s2 x2 => by
      obtain ⟨a2, B2, sI2, pn2, σ2, H2, cls2, d2, e2, I2, nb2, up2, sky2, na2, os2, ag2, w2⟩ := x2
      exact tk u2 s2 ⟨a2, B2, sI2, pins, σ2, H2, cls2, d2, e2, unsuiteX I2 ok, nb2, up2, sky2, na2, os2, ag2, w2⟩
    have hot : HotC (suiteX X a ((a, oe4) :: (X.pn ++ pins))) := ⟨(a, oe4), ⟨rfl, vs4, hd4, hz4.2.2 vs4 hd4⟩, List.mem_cons_self⟩
    refine wpAny_mono ((hsu a oe4 cls d (X.pn ++ pins) hz4 ⟨_, hd4⟩ tkS hot).run [] _ _ H' _ (suiteX_of S4) (hyes a na)) (fun f s6 hsp => ?_) (fun e6 s6 z => hpa (some (.ref a)) e6 s6 z)
    cases f with
    | next =>
      obtain ⟨σ6, H6, S6, q6⟩ := hsp
      exact ⟨_, _, unsuiteX S6 ok, q6⟩
    | brk =>
      obtain ⟨σ6, H6, S6, q6⟩ := hsp
      exact ⟨_, _, unsuiteX S6 ok, q6⟩
    | cont =>
      obtain ⟨σ6, H6, S6, q6⟩ := hsp
      exact ⟨_, _, unsuiteX S6 ok, q6⟩
    | ret u =>
      obtain ⟨v6, σ6, H6, S6, r6, q6⟩ := hsp
      exact ⟨_, _, _, unsuiteX S6 ok, r6, q6⟩
  · cases f with
    | next =>
      obtain ⟨σ', H', J', q⟩ := hsp
      exact wpAny_execs_nil ⟨σ', H', J'.ofTry ok, q⟩
    | brk =>
      obtain ⟨σ', H', J', q⟩ := hsp
      exact ⟨σ', H', J'.ofTry ok, q⟩
    | cont =>
      obtain ⟨σ', H', J', q⟩ := hsp
      exact ⟨σ', H', J'.ofTry ok, q⟩
    | ret u =>
      obtain ⟨v, σ', H', J', r, q⟩ := hsp
      exact ⟨v, σ', H', J'.ofTry ok, r, q⟩
end
end TW

namespace TW
open PySem PySem.Spec PyProof.Rows L2 L2H HotX
/-! ### errors whose context is None -/
section
variable {X : Cx} {CX : CXT} {k k' : Nat} {C : Addr} {x f q : Str} {e : Expr} {te : TE} {p pos : Pos}
theorem pmk_oexN {es : List Expr} {ta : TA} {fI : Addr} {fd : FuncData} {ps : List Str} {sp : Sp} (T : OexC X.K C) (iC : PySem.W.findIn X.K (.ref C) "__init__" = some (some (.ref fI))) (tI : PySem.W.typeIn X.K (.ref fI) = some (.type "function"))
    (F1 : FnOk X.prog X.w X.K X.mg X.base CX k fI fd ps sp) (hr : Room (k + 1) X.A) (hb : Binds X.K fd ps []) (hx : Passes CX X (fun _ _ _ => False)) (hg : Gl X x) (hm : X.mg x = some (.ref C)) (ha : PA X (e :: es) ta)
    (hdb : (x == ("__debug__" : Str)) = false := by decide) (he : starEach (e :: es) X.env = (false, eval e X.env) :: starEach es X.env := by rfl) (hpl : (backTo pos (starEach es X.env)).any (·.1) = false := by rfl) :
    L2N.PMk X (.Call (.Name x p) (e :: es) [] pos) (tMkO C sp [] ta) := by
  intro pins s σ H Q I h
  obtain ⟨nm, q, N, bs, bm, sn, sub, ab, col, dd, k0, k1, k2, k3, k5, hC, hbm⟩ := T.cls
  refine wpAny_Call_Name_kw (ld_glob I hg hm ?_ hdb)
  refine PySem.W.callWith_K (h₀ := X.base) I.ok.mod.kin T.kC (thn (ha.run pos pins s σ H _ I h) fun us s1 ⟨vs, H1, I1, r1, hz, q1⟩ => ⟨I1.kIn, ?_⟩) he hpl
  show wpAny _ _ (call (.ref C) us) _ _ _
  obtain ⟨hp, g, dr, tk, os⟩ := s1
  have hsz : hp.objs.size ≤ hp.objs.size + 1 := Nat.le_succ _
  have hn : H1 (hp.objs.size + 1) = none := I1.hok.fresh hsz
  have hq := q1 (hp.objs.size + 1) hn
  rw [List.append_nil] at hq
  have kk : ∀ b o, hp.get? b = some o → ((hp.push (PySem.W.kdv_tup us)).push (PySem.HandSPX.excO C hp.objs.size)).get? b = some o := fun b o e => Heap.get?_push_of_some _ (Heap.get?_push_of_some _ e)
  have hget : ((hp.push (PySem.W.kdv_tup us)).push (PySem.HandSPX.excO C hp.objs.size)).get? (hp.objs.size + 1) = some (PySem.HandSPX.excO C hp.objs.size) := by heap_get
  have I2 : Inv X pins σ (upd H1 (hp.objs.size + 1) (exo (hp.objs.size + 1) C none)) ⟨(hp.push (PySem.W.kdv_tup us)).push (PySem.HandSPX.excO C hp.objs.size), g, dr, tk, os⟩ :=
    I1.laid (t' := tk) (a := hp.objs.size + 1) (o := exo (hp.objs.size + 1) C none) (h' := (hp.push (PySem.W.kdv_tup us)).push (PySem.HandSPX.excO C hp.objs.size)) kk hsz (exo_ok hget)
  have r2 : Vals (V.ref (hp.objs.size + 1) :: vs) (Value.ref (hp.objs.size + 1) :: us) := .cons rfl r1
  have hl : (Value.ref (hp.objs.size + 1) :: us ++ []).length = ps.length := by
    have e := r2.length
    rw [F1.len _ _ _ _ hq] at e
    rw [List.append_nil]
    exact e.symm
  have hus : us.length ≤ sizeLine := by
    rw [← Paired.length r1, sizeLine_eq]
    omega
  have b2 := hb _ (Value.ref (hp.objs.size + 1) :: us) I2.kIn hl
  rw [List.append_nil] at b2
  refine wpAny_call (PySem.HandSPX.call_own F.excBase_ValueError (fun Y => PySem.HandSPX.refsVE_contains Y bm hbm) (I1.kIn _ _ hC) (PySem.W.looks_findIn I1.kIn iC) (fun self => PySem.W.bind_fn I1.kIn self tI) hus
    (codeAny_mono (F1.run _ X.stack _ _ ⟨Value.ref (hp.objs.size + 1) :: us, []⟩ (Value.ref (hp.objs.size + 1) :: us) _ _ (fun _ _ _ => False) (hr.make C us []) (I2.env0.make C us []) b2 r2 hq) fun r s' hq' => ?_))
  cases r with
  | error er => exact hx pins σ _ _ er s' I2 hq'
  | ok fl =>
    cases fl with
    | ret u =>
      obtain ⟨v, H2, os2, bare2, un2, hok2, rv, ev, d, fs, ea, ed, hd1, q2⟩ := hq'
      subst ev
      obtain ⟨h2, g2, d2, t2, os'⟩ := s'
      obtain ⟨t0, G, J, kG, ge, hoe, na⟩ := mk_end0 (d2 := d2) (t2 := t2) I1 hsz kk un2 hok2 os2 bare2 ea ed hd1
      refine ⟨rv, hp.objs.size + 1, _, _, ⟨G, g2, d2, t2, os'⟩, _, .ref C, some d, rfl, J, kG, ge, hoe, ⟨rfl, rfl, fun vs hv => ?_⟩, rfl, rfl, na, rfl, bare2, raises_own T.exC T.tyC, q2⟩
      cases hv
      rfl
    | next => exact False.elim hq'
    | brk => exact False.elim hq'
    | cont => exact False.elim hq'
theorem tMkErr_of {σ : L2.St} {H : Hp} {Q : XK} (h : tMkErr C f te σ H Q) : tMkO C (spErr C f) [] (tCons (fun σ H Q => ∃ Q0 : VK, te σ H Q0 ∧ ∀ v H1, Q0 v H1 → Q v H1) tNil) σ H Q := by
  refine ⟨_, h, fun v H1 q => ⟨by show 1 ≤ 1000; decide, fun a na => ⟨a, v, rfl, upd_same, fun d nd dne => ⟨rfl, d, [(f, v)], upd_same, ?_, ?_, ?_⟩⟩⟩⟩
  · rw [upd_ne dne, upd_same]
  · rw [upd_ne dne] at nd
    exact nd
  · rw [upd_del na dne]
    rw [upd_ne dne] at nd
    exact q d nd
theorem pe_weak (he : PE X e te) : PE X e (fun σ H Q => ∃ Q0 : VK, te σ H Q0 ∧ ∀ v H1, Q0 v H1 → Q v H1) := ⟨fun pins s σ H Q I ⟨Q0, h0, hm⟩ =>
    wpAny_mono (he.run pins s σ H Q0 I h0) (fun _ _ ⟨v, H1, I1, r1, q1⟩ => ⟨v, H1, I1, r1, hm v H1 q1⟩) fun _ _ z => z⟩
theorem pmk_errN (D : ErrOk X.prog X.w X.K X.mg X.base CX k C x f q) (hr : Room k' X.A) (hx : Passes CX X (fun _ _ _ => False)) (he : PE X e te) (hk : k + 1 ≤ k' := by decide) (hg : Gl X x := by rfl)
    (hdb : (x == ("__debug__" : Str)) = false := by decide) (hs : starEach [e] X.env = (false, eval e X.env) :: starEach [] X.env := by rfl) (hpl : (backTo pos (starEach [] X.env)).any (·.1) = false := by rfl) :
    L2N.PMk X (.Call (.Name x p) [e] [] pos) (tMkErr C f te) := by
  obtain ⟨T, hm, fI, fd, iC, tI, hb, F1⟩ := D
  have R := pmk_oexN (p := p) (pos := pos) T.oex iC tI F1 (hr.mono hk) hb hx hg hm (pa_cons (pe_weak he) pa_nil hs) hdb hs hpl
  exact fun pins s σ H Q I h => R pins s σ H Q I (tMkErr_of h)
end
/-- the error class at C, made while another exception is handled -/
def ErrOkH (P : Program) (w : World) (K : PySem.W.Frag) (mg : Str → Option Value) (base : Heap) (CX : CXT) (k : Nat) (C : Addr) (x f p : Str) : Prop :=
  ErrC K C ∧ mg x = some (.ref C) ∧ ∃ (fI : Addr) (fd : FuncData), PySem.W.findIn K (.ref C) "__init__" = some (some (.ref fI)) ∧ PySem.W.typeIn K (.ref fI) = some (.type "function") ∧ Binds K fd ["self", p] [] ∧
    FnH P w K mg base CX k fI fd ["self", p] (spErr C f)
section
variable {X : Cx} {CX : CXT} {k k' : Nat} {C : Addr} {x f q : Str} {e : Expr} {te : TE} {p pos : Pos}
theorem pmk5_errH (D : ErrOkH X.prog X.w X.K X.mg X.base CX k C x f q) (hr : RoomH k' X.A) (hc : HotC X) (hx : Passes CX X (fun _ _ _ => False)) (he : PE X e te) (hk : k + 1 ≤ k' := by decide) (hg : Gl X x := by rfl)
    (hdb : (x == ("__debug__" : Str)) = false := by decide) (hs : starEach [e] X.env = (false, eval e X.env) :: starEach [] X.env := by rfl) (hpl : (backTo pos (starEach [] X.env)).any (·.1) = false := by rfl) :
    PMk5 X (.Call (.Name x p) [e] [] pos) (tMkErr C f te) := by
  obtain ⟨T, hm, fI, fd, iC, tI, hb, F1⟩ := D
  have R := pmk5_oexH (p := p) (pos := pos) T.oex iC tI F1 (hr.mono hk) hc hb hx hg hm (pa_cons (pe_weak he) pa_nil hs) hdb hs hpl
  exact fun pins s σ H Q I h => R pins s σ H Q I (tMkErr_of h)
end
section
variable {P : Program} {w : World} {K : PySem.W.Frag} {mg : Str → Option Value} {base : Heap}
theorem Fun.okN {x qual : Str} {st : Stmt} {f : Addr} {fd : FuncData} {N ps : List Str} {k : Nat} {sp : Sp} (F : Fun K x qual st f fd) (S : FnScope N ps (defScope st)) (len : ∀ vs H Q E, sp vs H Q E → vs.length = ps.length)
    (hbody : ∀ (cdv : Value) (A : Around) (outer : List Env) (s : Shared) (H : Hp) (vs : List V) (Q : VK) (E : XK), Room k (A.deeper (envOfC qual (defScope st) s.heap.objs.size f cdv)) → sp vs H Q E →
      ∃ t, PSs (cxOf (L2N.CX P w) P w K mg base N qual (defScope st) f cdv A outer s H E) (defBody st) t ∧ t { nx := fun _ H' => Q .non H', rt := Q } (start N vs) H) : FnOk P w K mg base (L2N.CX P w) (k + 1) f fd ps sp := by
  obtain ⟨oc, od, kV, doc, pm, an, cdv, ct, osl, rfl, lk, hcd⟩ := F.ex
  exact fn_of lk hcd S len fun A outer s H vs Q E hr hsp => hbody cdv A outer s H vs Q E hr hsp
theorem Fun.okH {CX : CXT} {x qual : Str} {st : Stmt} {f : Addr} {fd : FuncData} {N ps : List Str} {k : Nat} {sp : Sp} (F : Fun K x qual st f fd) (S : FnScope N ps (defScope st)) (len : ∀ vs H Q E, sp vs H Q E → vs.length = ps.length)
    (hbody : ∀ (cdv : Value) (A : Around) (outer : List Env) (s : Shared) (H : Hp) (vs : List V) (Q : VK) (E : XK) (p : Addr × Obj), Hot1 A p → RoomH k (A.deeper (envOfC qual (defScope st) s.heap.objs.size f cdv)) → sp vs H Q E →
      ∃ t, PSs (cxH CX P w K mg base N qual (defScope st) f cdv A outer s H E p) (defBody st) t ∧ t { nx := fun _ H' => Q .non H', rt := Q } (start N vs) H) : FnH P w K mg base CX (k + 1) f fd ps sp := by
  obtain ⟨oc, od, kV, doc, pm, an, cdv, ct, osl, rfl, lk, hcd⟩ := F.ex
  exact fn_ofH lk hcd S len fun A outer s H vs Q E p hot hr hsp => hbody cdv A outer s H vs Q E p hot hr hsp
/-- a rise that lets nothing out -/
theorem passLN {X : Cx} : Passes (L2N.CX X.prog X.w) X E0 := fun _ _ _ _ _ _ _ h => by
  obtain ⟨_, _, _, _, _, _, _, _, _, _, _, _, z⟩ := h
  exact z.elim
end
end TW

namespace TW
open PySem PySem.Spec PyProof.Rows L2
/-! ### C.m(e, ..), m a staticmethod that may raise, in a try -/
section
variable {X : Cx} {CX : CXT} {k k' : Nat} {C : Addr} {m : Str} {ps : List Str} {sp : Sp} {E : L2.St → XK} {e o : Expr} {es : List Expr} {ta : TE} {t : TA} {apos pos : Pos}
def tStatS (C : Addr) (sp : Sp) (E : L2.St → XK) (ta : TE) (t : TA) : TE := fun σ H Q => ta σ H fun x H1 => x = .ref C ∧ t σ H1 fun vs H2 => sp vs H2 Q (E σ)
theorem pe_statS {pl : Sem Bool} (D : StatOk X.prog X.w X.K X.mg X.base CX k C m ps [] sp) (hr : Room k' X.A) (hx : ∀ σ, PassesAt CX X σ (E σ)) (he : PE X o ta) (ha : PA X (e :: es) t) (hk : k ≤ k' := by decide)
    (hst : starEach (e :: es) X.env = (false, eval e X.env) :: starEach es X.env := by rfl) (hpl : (backTo pos (starEach es X.env)).any (·.1) = false := by rfl)
    (ht : eval (.Call (.Attribute o m apos) (e :: es) [] pos) X.env = (do
      let ov ← eval o X.env
      standAt apos.atName
      let (f, first) ← holding [ov] (getMethod ov m pl)
      callWith pos f first (backTo pos (starEach (e :: es) X.env)) (backToKw pos (keywordEach [] X.env))) := by rfl) :
    PE X (.Call (.Attribute o m apos) (e :: es) [] pos) (tStatS C sp E ta t) := by
  obtain ⟨mc, p, g, fd, ds, c, hb, hd, F⟩ := D
  cases hd
  refine ⟨fun pins s σ H Q I h => ?_⟩
  refine PySem.W.methodCall_KW (pl := pl) (thn (he.run pins s σ H _ I h) fun u s1 ⟨x, H1, I1, rx, ex, q⟩ => ?_) ht
  subst ex
  obtain rfl : u = Value.ref C := rx
  obtain ⟨rest, hp⟩ := c.rc
  obtain ⟨mf, fr⟩ := I1.fr
  refine PySem.W.method_cls I1.kIn c.ga (PySem.W.cls_sm fr I1.ok.mod.kin c.ty c.rd c.at_ hp rfl ?_)
  refine PySem.W.callWith_K (h₀ := X.base) I1.ok.mod.kin c.kp (thn (ha.run pos pins _ σ H1 _ (I1.tok _) q) fun us s2 ⟨vs, H2, I2, rv, q2⟩ => ⟨I2.kIn, ?_⟩) hst hpl
  exact run_fnS F (hr.mono hk) hb (hx σ) I2 rv q2
end
end TW

namespace TW
open PySem PySem.Spec PyProof.Rows L2
/-! ### C.m(e, .., k = v, ..), m a staticmethod that may raise -/
section
variable {X : Cx} {CX : CXT} {k k' n : Nat} {C : Addr} {m : Str} {ps ks : List Str} {sp : Sp} {E : L2.St → XK} {e o : Expr} {es : List Expr} {kws : List Keyword} {ta : TE} {t tk : TA} {apos pos : Pos} {gV : List V → List V → List V}
def StatKOk (P : Program) (w : World) (K : PySem.W.Frag) (mg : Str → Option Value) (base : Heap) (CX : CXT) (k : Nat) (C : Addr) (m : Str) (ps : List Str) (n : Nat) (ks : List Str) (gV : List V → List V → List V) (sp : Sp) : Prop :=
  ∃ (mc : Value) (p g : Addr) (fd : FuncData) (gU : List Value → List Value → List Value), SMet K C mc m p g ∧ KBn K fd ps n ks gU gV ∧ FnOk P w K mg base CX k g fd ps sp
def tStatK (C : Addr) (n mm : Nat) (sp : Sp) (gV : List V → List V → List V) (E : L2.St → XK) (ta : TE) (t tk : TA) : TE := fun σ H Q => ta σ H fun x H1 => x = .ref C ∧ t σ H1 fun vs H2 => tk σ H2 fun zs H3 => vs.length = n ∧ zs.length = mm ∧ sp (gV vs zs) H3 Q (E σ)
theorem run_fnK {pins : List (Addr × Obj)} {σ : L2.St} {H : Hp} {s : Shared} {Q : VK} {f : Addr} {fd : FuncData} {gU : List Value → List Value → List Value} {us ws : List Value} {vs zs : List V} (F : FnOk X.prog X.w X.K X.mg X.base CX k f fd ps sp) (hr : Room k X.A) (hb : KBn X.K fd ps n ks gU gV) (hx : PassesAt CX X σ (E σ))
    (I : Inv X pins σ H s) (r : Vals vs us) (rz : Vals zs ws) (l1 : vs.length = n) (l2 : zs.length = ks.length) (h : sp (gV vs zs) H Q (E σ)) : wpAny (model X.prog X.w) X.A (call (.ref f) us (ks.zip ws)) (EP X pins σ Q) X.xe s := by
  refine wpAny_call (codeAny_mono (F.run X.A X.stack s H ⟨us, ks.zip ws⟩ (gU us ws) (gV vs zs) Q (E σ) hr I.env0 (hb.to s us ws I.kIn (r.length.symm.trans l1) (rz.length.symm.trans l2)) (hb.rel r rz) h) fun r s' hq => ?_)
  cases r with
  | error e => exact hx pins H s e s' I hq
  | ok fl =>
    cases fl with
    | ret u => exact I.after hq
    | next => exact False.elim hq
    | brk => exact False.elim hq
    | cont => exact False.elim hq
theorem pe_statK {pl : Sem Bool} (D : StatKOk X.prog X.w X.K X.mg X.base CX k C m ps n ks gV sp) (hr : Room k' X.A) (hx : ∀ σ, PassesAt CX X σ (E σ)) (he : PE X o ta) (ha : PA X (e :: es) t) (hkw : PK X kws tk) (hk : k ≤ k' := by decide)
    (hall : (backToKw pos (keywordEach kws X.env)).all (·.1.isSome) = true := by rfl) (hks : (backToKw pos (keywordEach kws X.env)).filterMap (·.1) = ks := by rfl)
    (hst : starEach (e :: es) X.env = (false, eval e X.env) :: starEach es X.env := by rfl) (hpl : ((backTo pos (starEach (e :: es) X.env)).any (·.1) || (backToKw pos (keywordEach kws X.env)).any (·.1.isNone)) = false := by rfl)
    (ht : eval (.Call (.Attribute o m apos) (e :: es) kws pos) X.env = (do
      let ov ← eval o X.env
      standAt apos.atName
      let (f, first) ← holding [ov] (getMethod ov m pl)
      callWith pos f first (backTo pos (starEach (e :: es) X.env)) (backToKw pos (keywordEach kws X.env))) := by rfl) :
    PE X (.Call (.Attribute o m apos) (e :: es) kws pos) (tStatK C n ks.length sp gV E ta t tk) := by
  obtain ⟨mc, p, g, fd, gU, c, hb, F⟩ := D
  refine ⟨fun pins s σ H Q I h => ?_⟩
  refine PySem.W.methodCall_KW (pl := pl) (thn (he.run pins s σ H _ I h) fun u s1 ⟨x, H1, I1, rx, ex, q⟩ => ?_) ht
  subst ex
  obtain rfl : u = Value.ref C := rx
  obtain ⟨rest, hp⟩ := c.rc
  obtain ⟨mf, fr⟩ := I1.fr
  refine PySem.W.method_cls I1.kIn c.ga (PySem.W.cls_sm fr I1.ok.mod.kin c.ty c.rd c.at_ hp rfl ?_)
  refine PySem.W.callWith_KW (h₀ := X.base) I1.ok.mod.kin c.kp hall (thn (ha.run pos pins _ σ H1 _ (I1.tok _) q) fun us s2 ⟨vs, H2, I2, rv, q2⟩ => ?_) hpl hst
  refine thn (hkw.run pos pins s2 σ H2 _ I2 q2) fun ws s3 ⟨zs, H3, I3, rz, l1, l2, q3⟩ => ⟨I3.kIn, ?_⟩
  rw [hks]
  exact run_fnK F (hr.mono hk) hb (hx σ) I3 rv rz l1 l2 q3
end
end TW

namespace TW
open PySem PySem.Spec PyProof.Rows L2
/-! ### a set of keys of any kind that can be walked in the model's order -/
section
variable {P : Program} {w : World} {V0 : Type} [DecidableEq V0] (knd : KeyKind P w V0)
/-- no two entries bear one key -/
def Apart (l : List (Int × Value)) : Prop := l.Pairwise fun e f => ∀ k, knd.is k e.2 = true → knd.is k f.2 = false
def SetG (h : Heap) (a : Addr) (S : V0 → Bool) (n : Nat) : Prop :=
  ∃ o es ep t, h.get? a = some o ∧ o.ExactSet ∧ o.data = .set es ep t ∧ ElemsOf knd es.toList ∧ Apart knd es.toList ∧ (∀ k, S k = true ↔ ∃ e ∈ es.toList, knd.is k e.2 = true) ∧
    es.size < scanBound ∧ t.fits es.size = true ∧ es.size = n ∧ Ris t.place.toList ∧ (w.params.followText "set-order" = true ∨ t.led = true)
variable {knd}
theorem apart_perm {l m : List (Int × Value)} (p : l.Perm m) (h : Apart knd l) : Apart knd m := by
  refine (p.pairwise_iff fun {e f} q k hk => ?_).mp h
  cases c : knd.is k e.2 with
  | false => rfl
  | true => rw [q k c] at hk; cases hk
theorem elems_perm {l m : List (Int × Value)} (p : l.Perm m) (h : ElemsOf knd l) : ElemsOf knd m := fun e he => h e (p.mem_iff.mpr he)
theorem has_perm {l m : List (Int × Value)} (p : l.Perm m) {k : V0} : (∃ e ∈ l, knd.is k e.2 = true) ↔ ∃ e ∈ m, knd.is k e.2 = true :=
  ⟨fun ⟨e, he, q⟩ => ⟨e, p.mem_iff.mp he, q⟩, fun ⟨e, he, q⟩ => ⟨e, p.mem_iff.mpr he, q⟩⟩
theorem SetG.setOf {h : Heap} {a : Addr} {S : V0 → Bool} {n : Nat} (R : SetG knd h a S n) : h.SetOf knd a S n := by
  obtain ⟨o, es, ep, t, ho, hx, hd, g, _, hm, hb, hf, hn, _⟩ := R
  exact ⟨o, es, ep, t, ho, hx, hd, g, hm, hb, hf, hn⟩
theorem SetG.at {h h' : Heap} {a : Addr} {S : V0 → Bool} {n : Nat} (R : SetG knd h a S n) (k : ∀ o, h.get? a = some o → h'.get? a = some o) : SetG knd h' a S n := by
  obtain ⟨o, es, ep, t, ho, r⟩ := R
  exact ⟨o, es, ep, t, k o ho, r⟩
end
section
variable {P : Program} {w : World} {V0 : Type} [DecidableEq V0] {knd : KeyKind P w V0} {A : Around} {E : Value → Shared → Prop} {s : Shared} {a : Addr} {S : V0 → Bool} {n : Nat}
theorem setG_tail {g : Bool → Sem Unit} (hg : ∀ (b : Bool) (s₁ : Shared) (Q' : Unit → Shared → Prop), Q' () s₁ → wpAny (model P w) A (g b) Q' E s₁)
    {o : Obj} {es : Array (Int × Value)} {ep : Nat} {t : SetTable} (ho : s.heap.get? a = some o) (hex : o.ExactSet) (hd : o.data = .set es ep t)
    {es1 : Array (Int × Value)} {t2 : SetTable} {S' : V0 → Bool} (g1 : ElemsOf knd es1.toList) (nd1 : Apart knd es1.toList) (m1 : ∀ k, S' k = true ↔ ∃ e ∈ es1.toList, knd.is k e.2 = true)
    (hb1 : es1.size < scanBound) (hf2 : t2.fits es1.size = true) (hr : Ris t2.place.toList) (hl : w.params.followText "set-order" = true ∨ t2.led = true) {wasDummy : Bool} {R : Option Bool → Shared → Prop}
    (hR : ∀ h', Heap.SameBut a s.heap h' → SetG knd h' a S' es1.size → R (some true) { s with heap := h' }) :
    wpAny (model P w) A (do
        storeSet a es1 t2
        if (!wasDummy && t2.tooFull) = true then do
            g (relayAll t2 es1 (SetTable.grown es1.size)).2.2
            storeSet a (relayAll t2 es1 (SetTable.grown es1.size)).1 (relayAll t2 es1 (SetTable.grown es1.size)).2.1
            pure (some true)
          else pure (some true)) R E s := by
  refine wpAny_bind (wpAny_storeSet_of ho hd ?_ (fits_of_scanBound hb1))
  have ho1 := store_at (es' := es1) (t' := t2) ho hd
  have sb1 := Heap.SameBut.update s.heap a (Obj.putSet es1 t2)
  split
  · obtain ⟨Z, hZ⟩ : ∃ Z, relayAll t2 es1 (SetTable.grown es1.size) = Z := ⟨_, rfl⟩
    have pm := relayAll_perm t2 es1 (SetTable.grown es1.size)
    have hf3 := relayAll_fits t2 es1 (SetTable.grown es1.size)
    have hr3 := relayAll_ris t2 es1 (SetTable.grown es1.size)
    have hl3 := relayAll_led t2 es1 (SetTable.grown es1.size)
    rw [hZ] at pm hf3 hr3 hl3 ⊢
    have hsz : Z.1.size = es1.size := by rw [← Array.length_toList, pm.length_eq, Array.length_toList]
    have hb2 : Z.1.size < scanBound := by rw [hsz]; exact hb1
    refine wpAny_bind (hg _ _ _ (wpAny_bind (wpAny_storeSet_of ho1 rfl ?_ (fits_of_scanBound hb2))))
    refine wpAny_pure (hR _ (sb1.trans (Heap.SameBut.update _ a _)) ⟨_, Z.1, _, Z.2.1, store_at (es' := Z.1) (t' := Z.2.1) ho1 rfl, hex, rfl, elems_perm pm.symm g1, apart_perm pm.symm nd1, fun k => (m1 k).trans (has_perm pm.symm), hb2, hf3, hsz, hr3, hl.imp id fun z => ?_⟩)
    rw [hl3]
    exact z
  · exact wpAny_pure (hR _ sb1 ⟨_, es1, _, t2, ho1, hex, rfl, g1, nd1, m1, hb1, hf2, rfl, hr, hl⟩)
theorem setG_add_hashed {k : V0} {v : Value} {Q : Bool → Shared → Prop} (hkey : knd.is k v = true) (hsc : v.scannable = true) (R : SetG knd s.heap a S n) (room : n + 1 < scanBound)
    (hQ : ∀ h', Heap.SameBut a s.heap h' → SetG knd h' a (fun j => S j || decide (j = k)) (if S k = true then n else n + 1) → Q (!S k) { s with heap := h' }) :
    wpAny (model P w) A (setAddHashed a v (knd.hash k)) Q E s := by
  obtain ⟨o, es, ep, t, ho, hex, hd, hel, nd, hm, hb, hf, hn, hr, hl⟩ := R
  unfold setAddHashed setAddHashedIn
  refine wpAny_holding (wpAny_bind (wpAny_setState_of ho hd hf ?_))
  dsimp only
  rw [byScan_of hsc hb hel]
  simp only [↓reduceIte]
  unfold setAddByScan
  refine wpAny_bind ?_
  refine wpAny_bind (wpAny_rule ?_)
  refine wpAny_bind (wpAny_setScan_of hkey ho hd hf hel ?_)
  cases hfi : List.findIdx? (fun e => knd.is k e.2) es.toList with
  | some j =>
    dsimp only
    obtain ⟨hj, pj, _⟩ := List.findIdx?_eq_some_iff_getElem.mp hfi
    have hSk : S k = true := (hm k).2 ⟨es.toList[j], List.getElem_mem hj, pj⟩
    have same : (fun j => S j || decide (j = k)) = S := funext fun i => by
      by_cases c : i = k
      · rw [c, hSk, Bool.true_or]
      · rw [decide_eq_false c, Bool.or_false]
    have q := hQ s.heap (Heap.SameBut.refl a s.heap)
    rw [same, if_pos hSk, hSk] at q
    exact wpAny_pure (wpAny_pure (q ⟨o, es, ep, t, ho, hex, hd, hel, nd, hm, hb, hf, hn, hr, hl⟩))
  | none =>
    dsimp only
    have none_is : ∀ e ∈ es.toList, knd.is k e.2 = false := fun e he => by
      have c := List.findIdx?_eq_none_iff.mp hfi e he
      simpa using c
    have hSk : S k = false := by
      cases q : S k with
      | false => rfl
      | true =>
        obtain ⟨e, he, z⟩ := (hm k).1 q
        rw [none_is e he] at z
        cases z
    obtain ⟨Z, hZ⟩ : ∃ Z, layNew t es (knd.hash k) v = Z := ⟨_, rfl⟩
    have pm := layNew_perm t es (knd.hash k) v
    have hf1 := layNew_fits t es (knd.hash k) v
    have hr1 := layNew_ris t es (knd.hash k) v hr
    have hl1 := layNew_led t es (knd.hash k) v
    rw [hZ] at pm hf1 hr1 hl1
    rw [hZ]
    obtain ⟨es1, t1, wasDummy, gave⟩ := Z
    dsimp only at pm hf1 hr1 hl1 ⊢
    rw [Array.toList_push] at pm
    have pc : ((knd.hash k, v) :: es.toList).Perm es1.toList := (pm.trans (List.perm_append_singleton _ _)).symm
    have g1 : ElemsOf knd es1.toList := elems_perm pc fun e he => by
      rcases List.mem_cons.mp he with z | z
      · rw [z]; exact ⟨⟨k, hkey, rfl⟩, hsc⟩
      · exact hel e z
    have nd1 : Apart knd es1.toList := apart_perm pc (List.pairwise_cons.mpr ⟨fun e he k' hk' => by
      rw [← knd.inj v k k' hkey hk']
      exact none_is e he, nd⟩)
    have m1 : ∀ i, (S i || decide (i = k)) = true ↔ ∃ e ∈ es1.toList, knd.is i e.2 = true := fun i => by
      rw [← has_perm pc, Bool.or_eq_true, decide_eq_true_eq, hm i]
      constructor
      · rintro (⟨e, he, q⟩ | rfl)
        · exact ⟨e, List.mem_cons_of_mem _ he, q⟩
        · exact ⟨_, List.mem_cons_self, hkey⟩
      · rintro ⟨e, he, q⟩
        rcases List.mem_cons.mp he with z | z
        · rw [z] at q
          exact .inr (knd.inj v i k q hkey)
        · exact .inl ⟨e, z, q⟩
    have hsz : es1.size = n + 1 := by rw [← Array.length_toList, ← pc.length_eq, List.length_cons, Array.length_toList, hn]
    have hb1 : es1.size < scanBound := by rw [hsz]; exact room
    have hled : w.params.followText "set-order" = true ∨ t1.led = true := hl.imp id fun z => by rw [hl1]; exact z
    have fin : ∀ h', Heap.SameBut a s.heap h' → SetG knd h' a (fun j => S j || decide (j = k)) es1.size → Q true { s with heap := h' } := fun h' sb r => by
      have q := hQ h' sb
      rw [hSk] at q
      rw [hsz] at r
      exact q r
    have hgw : ∀ (b : Bool) {s₁ : Shared} {Q' : Unit → Shared → Prop}, Q' () s₁ → wpAny (model P w) A (match b with | true => rule "set.scan.the-table-gave-way" | false => pure ()) Q' E s₁ :=
      fun b s₁ Q' q => by cases b <;> first | exact wpAny_pure q | exact wpAny_rule q
    refine wpAny_bind (hgw _ ?_)
    split
    · refine wpAny_bind ?_
      rw [hashByValue_scannable 8 hsc]
      refine wpAny_pure (setG_tail ?_ ho hex hd g1 nd1 m1 hb1 ?_ ?_ ?_ fun h' sb r => ?_)
      · intro b s₁ Q' q; cases b <;> first | exact wpAny_pure q | exact wpAny_rule q
      · first | (split <;> first | exact hf1 | exact SetTable.fits_plain_off hf1) | exact hf1
      · first | (split <;> exact hr1) | exact hr1
      · first | (split <;> exact hled) | exact hled
      · dsimp only; exact wpAny_pure (fin h' sb r)
    · refine wpAny_bind (wpAny_pure ?_)
      simp only [↓reduceIte]
      refine setG_tail ?_ ho hex hd g1 nd1 m1 hb1 hf1 hr1 hled fun h' sb r => ?_
      · intro b s₁ Q' q; cases b <;> first | exact wpAny_pure q | exact wpAny_rule q
      · dsimp only; exact wpAny_pure (fin h' sb r)
end
end TW

namespace TW
open PySem PySem.Spec PyProof.Rows L2
/-! ### set(xs), xs a list of texts, to be walked -/
section
variable {prog : Program} {w : World} {A : Around}
/-- the set at S holds the texts xs -/
def TxG (prog : Program) (w : World) (h : Heap) (S : Addr) (xs : List Str) : Prop := ∃ c, c ≤ xs.length ∧ SetG (PySem.strKind prog w) h S (fun k => decide (k ∈ xs)) c
theorem TxG.keep {h h' : Heap} {S : Addr} {xs : List Str} (t : TxG prog w h S xs) (k : ∀ o, h.get? S = some o → h'.get? S = some o) : TxG prog w h' S xs := by
  obtain ⟨c, u, R⟩ := t
  exact ⟨c, u, R.at k⟩
theorem growG {R : Result → Shared → Prop} {I S : Addr} {fp wr : List Addr} {G : Array GenState → Array GenState → Prop} {n : Nat} {Pv : Nat → Value → Prop} {St : Nat → Shared → Prop} {xs : List Str}
    (W : WalksS prog w A.in1 I fp wr G n Pv St) (away : S ∉ fp) (len : xs.length = n) (few : n + 1 < scanBound) (told : ∀ i v, Pv i v → ∃ t, v = .str (xs.getD i Str.empty) t) (left : Nat) :
    ∀ (i : Nat) (s : Shared), n = i + left → St i s → TxG prog w s.heap S (xs.take i) → (∀ s', Moved (S :: wr) G s s' → TxG prog w s'.heap S xs → R (.ok (.ret .none)) s') →
      codeAny (model prog w) A (.builtin "set.update.loop" ⟨[.ref S, .ref I], []⟩) R s := by
  have apart : S ∉ wr := fun h => away (W.sub _ h)
  have wider : ∀ b ∈ wr, b ∈ S :: wr := fun _ hb => List.mem_cons_of_mem _ hb
  induction left with
  | zero =>
    intro i s hn st tx fin
    have en : i = n := by omega
    have ex : xs.take i = xs := List.take_of_length_le (by omega)
    subst en
    rw [ex] at tx
    refine codeAny_builtin F.entry_set_update_loop (by
      rw [Around.under_plainId F.plain_set_update_loop _]
      refine (wpAny_bind (W.done s _ _ st fun s' mv => ?_) : wpAny (model prog w) A.in1 (pyNext (.ref I) >>= _) _ _ s)
      show wpAny (model prog w) A.in1 (ret .none) _ _ s'; exact wpAny_pure (fin s' (mv.mono wider) (tx.keep fun o e => mv.heap S o apart e)))
  | succ left ih =>
    intro i s hn st tx fin
    have lt : i < n := by omega
    refine codeAny_builtin F.entry_set_update_loop (by
      rw [Around.under_plainId F.plain_set_update_loop _]
      refine (wpAny_bind (W.item i s _ _ lt st fun v s' pv st' mv => ?_) : wpAny (model prog w) A.in1 (pyNext (.ref I) >>= _) _ _ s)
      obtain ⟨t, rfl⟩ := told i v pv
      have tx' := tx.keep (h' := s'.heap) fun o e => mv.heap S o apart e
      obtain ⟨c, u, so⟩ := tx'
      obtain ⟨x, hx⟩ : ∃ x, xs[i]? = some x := ⟨_, List.getElem?_eq_getElem (by omega)⟩
      have gx : xs.getD i Str.empty = x := by rw [List.getD_eq_getElem?_getD, hx]; rfl
      have tk : xs.take (i + 1) = xs.take i ++ [x] := by rw [List.take_add_one, hx]; rfl
      rw [gx]
      have cn : c + 1 < scanBound := by
        rw [List.length_take] at u
        omega
      refine (wpAny_bind (wpAny_holding ?_) : wpAny (model prog w) A.in1 (holding [Value.str x t] (setAdd S (.str x t)) >>= _) _ _ s')
      unfold setAdd
      refine wpAny_holding (wpAny_bind ((PySem.strKind prog w).pyHash (k := x) (strKind_is _ _ _ _) ?_))
      refine setG_add_hashed (knd := PySem.strKind prog w) (s := { s' with toks := s'.toks + 1 }) (strKind_is _ _ _ _) rfl so cn fun h' but so2 => ?_
      have next : TxG prog w h' S (xs.take (i + 1)) := by
        have same : ∀ k, (decide (k ∈ xs.take i) || decide (k = x)) = decide (k ∈ xs.take (i + 1)) := fun k => by
          rw [tk]
          simp [List.mem_append]
        have fe : (fun k => decide (k ∈ xs.take i) || decide (k = x)) = fun k => decide (k ∈ xs.take (i + 1)) := funext same
        rw [fe] at so2
        refine ⟨_, ?_, so2⟩
        rw [tk, List.length_append, List.length_singleton]
        split <;> omega
      have go := ih (i + 1) { s' with heap := h', toks := s'.toks + 1 } (by omega) (W.frame _ s' _ _ st' (Nat.le_succ _) fun b hb o e => by rw [but.2 b fun q : b = S => away (q ▸ hb)]; exact e) next fun s'' mv2 tx2 =>
        fin s'' (Moved.trans W.gtrans ((mv.mono wider).then_heap (Nat.le_succ _) fun b o hb e => by rw [but.2 b fun q : b = S => hb (q ▸ List.mem_cons_self)]; exact e) mv2) tx2
      exact wpAny_pure ⟨plainId_quiet F.plain_set_update_loop _, go⟩)
/-- a new set, as set() lays it -/
abbrev newSetG (led : Bool) : Obj := { cls := .type "set", dict := none, data := .set #[] 0 (.fresh 0 0 led) }
variable {E : Value → Shared → Prop} {s : Shared}
set_option maxHeartbeats 3200000 in
theorem setG_of_texts {l : Addr} {its : Array Value} {xs : List Str} {Q : Value → Shared → Prop} (calm : A.handled = none) (hl : s.heap.IsList l its) (hx : StrsAre its.toList xs) (few : xs.length + 1 < scanBound)
    (q : ∀ (h' : Heap) (tk : Nat), TxG prog w h' s.heap.objs.size xs → (∀ b o, b < s.heap.objs.size → s.heap.get? b = some o → h'.get? b = some o) → Q (.ref s.heap.objs.size) { s with heap := h', toks := tk }) :
    wpAny (model prog w) A (call (.type "set") [.ref l]) Q E s := by
  have len : xs.length = its.size := by rw [← StrsAre.len_eq hx, Array.length_toList]
  obtain ⟨cm, tm, hmro⟩ := PySem.F.called_set.mro
  have b1 := PySem.F.called_set.made; have b2 := PySem.F.called_set.sub; have b3 := PySem.F.called_set.notType; have b4 := PySem.F.called_set.canCreate; have b5 := PySem.F.typeCall_set_1 (.ref l)
  refine wpAny_call (codeAny_of_tree (show wpAny _ _ (callAny (.type "set") _) _ _ _ from wpAny_pure ⟨Code.quiet_builtin _ (by decide +kernel), codeAny_builtin PySem.F.entry_type_call ?_⟩))
  rw [Around.under_plain (weight_type_call_type "set" [.ref l] []) rfl]
  repeat (any_goals (first | assumption | wp_step))
  have made := code_set_led1 (P := prog) (w := w) (A := A.in1) (s := s) (.ref l) (E := E) (Q₁ := fun v s1 => v = .ref s.heap.objs.size ∧ s1 = { s with heap := s.heap.push (newSetG (!w.params.followText "set-order")) }) ⟨rfl, rfl⟩
  refine codeAny_mono made fun r s1 hr => ?_
  match r, hr with
  | .error e, hr => exact hr
  | .ok (.ret v), ⟨e1, e2⟩ =>
    subst e1 e2
    have at0 : (s.heap.push (newSetG (!w.params.followText "set-order"))).get? s.heap.objs.size = some (newSetG (!w.params.followText "set-order")) := Heap.get?_push_size _ rfl
    have ty0 : Shared.TypeIs { s with heap := s.heap.push (newSetG (!w.params.followText "set-order")) } (.ref s.heap.objs.size) "set" := ⟨_, at0, rfl⟩
    have c1 := PySem.F.called_set.init.lookup; have c2 := PySem.F.called_set.init.bind (.ref s.heap.objs.size)
    repeat (any_goals (first | assumption | wp_step))
    have done_ : codeAny (model prog w) A.in1 (.call (.builtin "set.__init__") ⟨[.ref s.heap.objs.size, .ref l], []⟩)
        (wants (fun v s2 => v = .none ∧ ∃ h' tk, s2 = { s with heap := h', toks := tk } ∧ TxG prog w h' s.heap.objs.size xs ∧ ∀ b o, b < s.heap.objs.size → s.heap.get? b = some o → h'.get? b = some o) E) { s with heap := s.heap.push (newSetG (!w.params.followText "set-order")) } := by
      refine codeAny_call_builtin PySem.F.called_set.init.plain PySem.F.entry_set_init (check_set_init_1 ty0 ?_)
      obtain ⟨⟨ocl, odi, oda, osl⟩, hol, hcl, ln, hdl⟩ := id hl
      simp only at hcl hdl
      subst hcl hdl
      have ol := Heap.get?_push_of_some (newSetG (!w.params.followText "set-order")) hol
      have il : (s.heap.push (newSetG (!w.params.followText "set-order"))).IsList l its := ⟨_, ol, rfl, ln, rfl⟩
      have d1 := PySem.F.sub_list_set; have d2 := PySem.F.sub_list_frozenset; have d3 : (Value.type "list" == Value.type "dict") = false := by decide
      have ls : l < s.heap.objs.size := Heap.lt_size hol
      have ll : l ≠ (s.heap.push (newSetG (!w.params.followText "set-order"))).objs.size := by rw [Heap.size_push]; exact Nat.ne_of_lt (Nat.lt.step ls)
      have away : s.heap.objs.size ∉ [(s.heap.push (newSetG (!w.params.followText "set-order"))).objs.size, l] := by
        rw [Heap.size_push]
        simp only [List.mem_cons, List.not_mem_nil, or_false, not_or]
        exact ⟨Nat.ne_of_lt (Nat.lt.base _), (Nat.ne_of_lt ls).symm⟩
      have quiet3 : A.in1.in1.in1.handled = none := by simp [calm]
      unfold Builtin.«set.__init__» noKeywords Builtin.Frozenset.updateFrom
      generalize asked : pyIter = PI
      wp_walk
      subst asked
      have told : ∀ (i : Nat) (v : Value), its[i]? = some v → ∃ t, v = .str (xs.getD i Str.empty) t := fun i v hv => SS.strs_at hx i v (Array.getElem?_toList.trans hv)
      refine wpAny_pyIter_list il (wpAny_bind (wpAny_runValue (growG (S := s.heap.objs.size) (Walks.list quiet3 _ l ll its).toS away len (by rw [← len]; exact few) told its.size 0 _ (Nat.zero_add _).symm ⟨⟨_, Heap.get?_push_size _ rfl, rfl, rfl⟩, il.push _⟩ ?_ fun s' mv tx => ?_)))
      · refine ⟨0, Nat.zero_le _, _, #[], 0, _, Heap.get?_push_of_some _ at0, ⟨rfl, rfl, rfl⟩, rfl, (fun e he => by simp at he), (by show List.Pairwise _ []; exact List.Pairwise.nil), (fun k => by simp), (by decide), (by rfl), rfl, List.Pairwise.nil, ?_⟩
        show _ ∨ (!w.params.followText "set-order") = true
        cases w.params.followText "set-order"
        · exact .inr rfl
        · exact .inl rfl
      · obtain ⟨hs, gs, ds, ts, os⟩ := s'
        have m1 : gs = s.gens := mv.gens; have m2 : ds = s.drawn := mv.drawn; have m3 : os = s.os := mv.os
        subst m1 m2 m3
        show wpAny _ _ _ _ _ _
        refine wpAny_pure (show wpAny _ _ (ret Value.none) _ _ _ from wpAny_pure ⟨rfl, hs, ts, rfl, tx, fun b o hb e => mv.heap b o ?_ (Heap.get?_push_of_some _ (Heap.get?_push_of_some _ e))⟩)
        simp only [Heap.size_push, List.mem_cons, List.not_mem_nil, or_false, not_or]
        exact ⟨Nat.ne_of_lt hb, Nat.ne_of_lt (Nat.lt.step hb)⟩
    refine codeAny_mono done_ fun r2 s2 hr2 => ?_
    match r2, hr2 with
    | .error e, hr2 => exact hr2
    | .ok (.ret v), ⟨e1, h', tk, e2, tx, keep⟩ =>
      subst e1 e2
      repeat (any_goals (first | assumption | wp_step))
      exact q h' tk tx keep
end
end TW

namespace TW
open PySem PySem.Spec PyProof.Rows L2
/-! ### sorted(set), a set of texts -/
section
variable {P : Program} {w : World} {A : Around} {E : Value → Shared → Prop} {s : Shared} {a : Addr} {S : Str → Bool} {n : Nat}
theorem strs_of_elems : ∀ {l : List (Int × Value)}, ElemsOf (PySem.strKind P w) l → ∀ v ∈ l.map (·.2), ∃ x t, v = Value.str x t := fun {l} g v hv => by
  obtain ⟨e, he, rfl⟩ := List.mem_map.mp hv
  obtain ⟨⟨k, hk, _⟩, _⟩ := g e he
  exact ⟨k, Value.isStrOf_shape (show Value.isStrOf k e.2 = true from hk)⟩
theorem is_strOf {k : Str} {v : Value} (h : ∃ x t, v = Value.str x t) : (PySem.strKind P w).is k v = true ↔ strOf v = k := by
  obtain ⟨x, t, rfl⟩ := h
  constructor
  · intro q
    exact (PySem.strKind P w).inj _ x k (strKind_is P w x t) q
  · intro q
    have q : x = k := q
    rw [← q]
    exact strKind_is P w x t
theorem sorted_setG {Q : Value → Shared → Prop} (R : SetG (PySem.strKind P w) s.heap a S n) (hh : A.handled = none) (h64 : n < 64)
    (hQ : ∀ s' p (out : Array Value) (c : Nat) (zs : List Str), (∀ b o, s.heap.get? b = some o → s'.heap.get? b = some o) → s'.gens = s.gens → s'.os = s.os → s.heap.objs.size ≤ p →
      s'.heap.get? p = some (seqObj "list" out c) → StrsAre out.toList zs → sortedS zs = true → zs.Nodup → (∀ k, k ∈ zs ↔ S k = true) → zs.length = n → Q (.ref p) s') :
    wpAny (model P w) A (call (.builtin "sorted") [.ref a]) Q E s := by
  obtain ⟨o, es, ep, t, ho, hex, hd, g, nd, hm, hb, hf, hn, hr, hl⟩ := R
  refine Calls.call_function_entry kind_sorted plain_sorted entry_sorted (args_sorted1 _) ?_
  unfold Builtin.«sorted»
  refine wpAny_bind (m := checkCount "sorted" 1 1 _) (wpAny_pure ?_)
  refine wpAny_bind (collect_set (A := A.in1) hh ⟨o, ho, hex.1, hd⟩ hf hb hr hl fun s1 vs k1 hz g1 o1 pm => ?_)
  have hvl : vs.length = n := by rw [pm.length_eq, List.length_map, Array.length_toList]; exact hn
  have shape : ∀ v ∈ vs, ∃ x t, v = Value.str x t := fun v hv => strs_of_elems g v (pm.mem_iff.mp hv)
  have hS : StrsAre vs (vs.map strOf) := strsAre_map vs shape
  refine wpAny_bind (wpAny_newList ?_ (by rw [hvl, sizeLine_eq]; omega))
  have hoL : (s1.heap.push (seqObj "list" vs.toArray 0)).get? s1.heap.objs.size = some (seqObj "list" vs.toArray 0) := Heap.get?_push_size _ rfl
  refine wpAny_bind (wpAny_holding (wpAny_call_entry slot_list_sort ⟨_, hoL, rfl⟩ entry_list_sort (list_sort_treeK strKind_oneLt hoL hS.keysOf (fun v₁ v₂ rest e => keyKind_strs (by rw [← e]; exact hS)) (by rw [hvl]; exact h64) fun st' a1 a2 => ⟨_, rfl, ?_⟩) (args_list_sort _)))
  obtain ⟨zs, z1, z2, z3⟩ := sorted_out_str hS a1 a2
  obtain ⟨c, hc⟩ := sortedHeap_at (vs := vs) (out := (arrOf st').map (·.2)) hoL
  have esh := fun e (he : e ∈ es.toList) => strs_of_elems g e.2 (List.mem_map.mpr ⟨e, he, rfl⟩)
  have pk : (vs.map strOf).Perm (es.toList.map fun e => strOf e.2) := by
    have q := pm.map strOf
    rw [List.map_map] at q
    exact q
  have pn := z2.trans pk
  have ndk : (es.toList.map fun e => strOf e.2).Nodup := by
    rw [List.nodup_iff_pairwise_ne, List.pairwise_map]
    refine List.Pairwise.imp_of_mem (fun {e f} he hf q z => ?_) nd
    have h1 := (is_strOf (P := P) (w := w) (esh e he)).mpr rfl
    have h2 := (is_strOf (P := P) (w := w) (esh f hf)).mpr z.symm
    rw [q _ h1] at h2
    cases h2
  refine wpAny_pure ⟨_, rfl, hQ _ s1.heap.objs.size _ c zs (fun b u e => ?_) g1 o1 hz hc z1 z3 (pn.nodup_iff.mpr ndk) (fun k => ?_) ?_⟩
  · have q := k1 b u e
    have hlt := Heap.lt_size q
    show (sortedHeap (s1.heap.push (seqObj "list" vs.toArray 0)) s1.heap.objs.size vs _).get? b = some u
    rw [sortedHeap_old (Nat.ne_of_lt hlt) (by rw [size_push']; exact Nat.lt_succ_of_lt hlt)]
    exact Heap.get?_push_of_some _ q
  · rw [pn.mem_iff, List.mem_map, hm k]
    constructor
    · rintro ⟨e, he, q⟩
      exact ⟨e, he, (is_strOf (esh e he)).mpr q⟩
    · rintro ⟨e, he, q⟩
      exact ⟨e, he, (is_strOf (esh e he)).mp q⟩
  · rw [pn.length_eq, List.length_map, Array.length_toList]; exact hn
end
end TW

namespace TW
open PySem PySem.Spec PyProof.Rows L2
section
variable {X : Cx}
/-- sorted(set(xs)), xs a list of fewer than 63 texts -/
def tSortedSetS (K : PySem.W.Frag) (ta : TE) : TE := fun σ H Q => ta σ H fun x H1 => ∃ (l : Addr) (xs : List Str), x = .ref l ∧ SqL K H1 l (xs.map V.str) ∧ xs.length < 63 ∧
  ∀ (zs : List Str) (p : Addr), sortedS zs = true → zs.Nodup → (∀ k, k ∈ zs ↔ k ∈ xs) → zs.length ≤ xs.length → H1 p = none → Q (.ref p) (upd H1 p (.lst (zs.map V.str)))
theorem pe_sortedSetS {a : Expr} {ta : TE} {p p2 q pos : Pos} (hc : X.calm = true) (hg : Gl X "sorted") (hm : X.mg "sorted" = none) (hg2 : Gl X "set") (hm2 : X.mg "set" = none) (ha : PE X a ta)
    (na : starEach [a] X.env = (false, eval a X.env) :: starEach [] X.env := by rfl) : PE X (.Call (.Name "sorted" p) [.Call (.Name "set" p2) [a] [] q] [] pos) (tSortedSetS X.K ta) := by
  refine ⟨fun pins s σ H Q I h => Call_ (ld_blt I hg hm (show bootBuiltins "sorted" = some (.builtin "sorted") by decide +kernel) (PyProof.Rows.callWith_builtin1 (PyProof.Rows.args_cons (Call_ (ld_blt I hg2 hm2 boot_set (PyProof.Rows.callWith_type1 (PyProof.Rows.args_cons ?_ na) na rfl))) rfl) rfl rfl))⟩
  refine thn (ha.run pins s σ H _ I h) fun v s1 ⟨x, H1, I1, r1, l, xs, ex, hq, few, q1⟩ => PyProof.Rows.args_nil ?_
  subst ex
  cases r1
  obtain ⟨its, r, pl, _⟩ := I1.list hq
  refine setG_of_texts (I1.ok.hd hc) pl.isList (by simpa using strsAre_of r) (by unfold scanBound; omega) fun h' tk tx keep => PyProof.Rows.args_nil ?_
  obtain ⟨c, u, R⟩ := tx
  have I2 : Inv X pins σ H1 { s1 with heap := h', toks := tk } := I1.kept fun b o e => keep b o (Heap.lt_size e) e
  refine sorted_setG R (I2.ok.hd hc) (by omega) fun s' p out cc zs k g o hp hg z1 z2 z3 z4 z5 => ?_
  have hlen : (zs.map V.str).length ≤ sizeLine := by rw [List.length_map, z5, sizeLine_eq]; omega
  have hn : H1 p = none := I2.hok.fresh hp
  have J : Inv X pins σ (upd H1 p (.lst (zs.map V.str))) { ({ s1 with heap := h', toks := tk } : Shared) with heap := s'.heap, gens := s'.gens, drawn := s'.drawn, toks := s'.toks } :=
    I2.call (ch := []) (Un.laid k hp hn) (I2.hok.laid k hp ⟨hlen, out.toList, cc, vals_of_strs z1, hg⟩) (by rw [g]; exact I2.bare) (fun _ z => nomatch z)
  have e : s' = { ({ s1 with heap := h', toks := tk } : Shared) with heap := s'.heap, gens := s'.gens, drawn := s'.drawn, toks := s'.toks } := by
    cases s'
    cases s1
    cases o
    rfl
  rw [e]
  exact ⟨.ref p, _, J, rfl, q1 zs p z2 z3 (fun k => (z4 k).trans (by simp)) (by omega) hn⟩
end
end TW

namespace TW
open PySem PySem.Spec PyProof.Rows L2
/-! ### {m for ta in sa for tb in sb}: members are ints; what the second clause walks is held fast meanwhile -/
abbrev SC2 (m ta sa tb sb : Expr) (ca cb : List Expr) (scp : Scope) (ps : Pos) : Expr := .SetComp m [⟨ta, sa, ca, 0⟩, ⟨tb, sb, cb, 0⟩] scp ps
section
variable {m ta sa tb sb : Expr} {ca cb : List Expr} {scp : Scope} {ps : Pos}
theorem sc2_first (walk held : Value) (en : Env) :
    compTurn (SC2 m ta sa tb sb ca cb scp ps) 0 walk held en = (do
      standAt sa.pos
      match ← pyNext walk with
      | none => pure (.done .next)
      | some got =>
        letOwnedTupleGo ta walk got
        assign ta en got
        let mut all := true
        for one in ca do
          if all then all ← isTrue one en (eval one en)
        if all then
          let src ← eval sb en
          standAt sb.pos
          let src ← foldedSetIterable sb en src
          let _ ← runOwn (.compStart (SC2 m ta sa tb sb ca cb scp ps) 1 (← holding [src] (pyIter src)) held en) en
        again (.compLoop (SC2 m ta sa tb sb ca cb scp ps) 0 walk held en)) := by rfl
theorem sc2_second (walk held : Value) (en : Env) :
    compTurn (SC2 m ta sa tb sb ca cb scp ps) 1 walk held en = (do
      standAt sb.pos
      match ← pyNext walk with
      | none => pure (.done .next)
      | some got =>
        letOwnedTupleGo tb walk got
        assign tb en got
        let mut all := true
        for one in cb do
          if all then all ← isTrue one en (eval one en)
        if all then
          (do let got ← eval m en; standAt m.pos; let _ ← call (.builtin "set.add") [held, got])
        again (.compLoop (SC2 m ta sa tb sb ca cb scp ps) 1 walk held en)) := by rfl
section
variable {P : Program} {w : World} {A : Around} {R : Result → Shared → Prop} {s : Shared} {walk held : Value} {en : Env}
theorem sc2_start1 (go : codeAny (model P w) A (.compLoop (SC2 m ta sa tb sb ca cb scp ps) 1 walk held en) R s)
    (it : wpAny (model P w) A (pyIter walk) (fun i t => codeAny (model P w) A (.compLoop (SC2 m ta sa tb sb ca cb scp ps) 1 i held en) R t) (notedBy (model P w) A en fun x t => R (.error x) t) s) :
    codeAny (model P w) A (.compStart (SC2 m ta sa tb sb ca cb scp ps) 1 walk held en) R s := by
  refine codeAny_of_tree ?_
  show wpAny _ _ ((compStart (SC2 m ta sa tb sb ca cb scp ps) 1 walk held en).onRaise fun x => do noteFrame x en; standAt theWindowsPlace) _ _ s
  refine wpAny_notedAt (by
    unfold compStart
    show wpAny _ _ (ask >>= _) _ _ s
    refine wpAny_bind (wpAny_askSetting (wpAny_ite (by
      split
      · first
          | exact wpAny_bind (wpAny_pure (wpAny_pure ⟨rfl, go⟩))
          | exact wpAny_pure ⟨rfl, go⟩
      · first
          | exact wpAny_bind (wpAny_rule (wpAny_bind (wpAny_standAt (wpAny_bind (wpAny_mono it (fun i t g => wpAny_pure ⟨rfl, g⟩) fun _ _ x => x)))))
          | (refine wpAny_bind (wpAny_rule (by
              show wpAny _ _ (standAt sb.pos >>= _) _ _ s
              exact wpAny_bind (wpAny_standAt (wpAny_bind (wpAny_mono it (fun i t g => wpAny_pure ⟨rfl, g⟩) fun _ _ x => x))))))))))
end
/-- the reading: D the new set, d what the inner walk goes over -/
def tSc2 (w : World) (wa : TI) (ga : TG) (ka : TT) (wb : TI) (gb : TG) (kb : TT) (te : TE) (vs vb : List Nat) : TE := fun σ H Q => wa σ H fun J H1 => ∀ D, H1 D = none → ∃ W : Nat → Nat → Hp → Prop, (∃ c, W 0 c (upd H1 D (SetO w D (fun _ => false) 0))) ∧ ∀ i c H, W i c H →
  (J.stop i H ∧ Q (.ref D) H) ∨ (J.go i H ∧ ∃ Nx : Hp → Prop, (∀ G, Nx G → ∃ c', c' < c ∧ W (i + 1) c' G) ∧ ∀ x G, J.yld i H x G → ga x (wipe σ vs) G fun σ2 H2 => wipe σ2 vs = wipe σ vs ∧ ka σ2 H2 fun b H3 =>
    if b = true then ∃ d u, H3 d = some u ∧ Mut (some u) ∧ ∀ od, wb σ2 (upd H3 d (.frz od u)) fun I H4 => ∃ V1 : Nat → Nat → Hp → Prop, (∃ c, V1 0 c H4) ∧ ∀ j c H, V1 j c H →
      (I.stop j H ∧ H d = some (.frz od u) ∧ Nx (upd H d u)) ∨ (I.go j H ∧ ∃ Ny : Hp → Prop, (∀ G, Ny G → ∃ c', c' < c ∧ V1 (j + 1) c' G) ∧ ∀ x G, I.yld j H x G → gb x (wipe σ2 vb) G fun σ3 H5 => wipe σ3 vb = wipe σ2 vb ∧ kb σ3 H5 fun b H6 =>
        if b = true then te σ3 H6 fun y H7 => ∃ (k : Int) (S : Int → Bool) (n : Nat), y = .int k ∧ H7 D = some (SetO w D S n) ∧ n + 1 < scanBound ∧ Ny (upd H7 D (SetO w D (fun z => S z || decide (z = k)) (if S k = true then n else n + 1))) else Ny H6)
    else Nx H3)
end
section
variable {X : Cx}
theorem pe_sc2 {m ta sa tb sb : Expr} {ca cb : List Expr} {scp : Scope} {ps : Pos} {own : List (Str × Nat)} {vb : List Nat} {wa wb : TI} {ga gb : TG} {ka kb : TT} {te : TE} (hc : X.calm = true) (hN : X.N.Nodup) (hi : PI X ta sa wa) (ok : BlkOk X.N X.env.scope scp own) (hv : ∀ i ∈ vb, i ∈ own.map (·.2))
    (hg : ∀ (s : Shared) (H : Hp) (C : Addr) (cl : List (Str × Addr)) (fp : List Addr), PG (X.blk s H scp (compEnvC scp cl C X.env) fp) ta ga)
    (ht : ∀ (s : Shared) (H : Hp) (C : Addr) (cl : List (Str × Addr)) (fp : List Addr), PTs (X.blk s H scp (compEnvC scp cl C X.env) fp) ca ka)
    (hi1 : ∀ (s : Shared) (H : Hp) (C : Addr) (cl : List (Str × Addr)) (fp : List Addr), PI (X.blk s H scp (compEnvC scp cl C X.env) fp) tb sb wb)
    (hg1 : ∀ (s : Shared) (H : Hp) (C : Addr) (cl : List (Str × Addr)) (fp : List Addr), PG (X.blk s H scp (compEnvC scp cl C X.env) fp) tb gb)
    (ht1 : ∀ (s : Shared) (H : Hp) (C : Addr) (cl : List (Str × Addr)) (fp : List Addr), PTs (X.blk s H scp (compEnvC scp cl C X.env) fp) cb kb)
    (he : ∀ (s : Shared) (H : Hp) (C : Addr) (cl : List (Str × Addr)) (fp : List Addr), PE (X.blk s H scp (compEnvC scp cl C X.env) fp) m te)
    (hs : ∀ x, foldedSetIterable sa X.env x = pure x := by intro _; rfl) (hs1 : ∀ env x, foldedSetIterable sb env x = pure x := by intro _ _; rfl) :
    PE X (SC2 m ta sa tb sb ca cb scp ps) (tSc2 X.w wa ga ka wb gb kb te (own.map (·.2)) vb) := by
  refine ⟨fun pins s σ H Q I h => ?_⟩
  rw [show eval (SC2 m ta sa tb sb ca cb scp ps) X.env = _ from PpSet.eval_SetComp m [⟨ta, sa, ca, 0⟩, ⟨tb, sb, cb, 0⟩] scp ps]
  have frees : ∀ y ∈ scp.names, y.2 = .free → ∃ c, X.env.cells.lookup y.1 = some c := fun y hy e => (ok.free y hy e).elim (fun k => I.ok.has _ (.inl k)) fun k => I.ok.has _ (.inr k)
  refine wpAny_comprehension_free (use := none) rfl hs (closure_ok frees) ok.kind (fun y hy e => by rw [ok.uniq y hy, e]) (thn (hi.run pins s σ H _ I h) fun _ t1 hx => thn hx fun _ t2 h2 => ?_)
  obtain ⟨it, fp, tn, J, G2, rfl, I2, T, st2, f2, q⟩ := h2
  refine PpSet.newSet_ok (newEnv_comp ?_)
  obtain ⟨D, eD⟩ : ∃ D, D = t2.heap.objs.size := ⟨_, rfl⟩
  have freeD : G2 D = none := I2.hok.fresh (Nat.le_of_eq eD.symm)
  obtain ⟨W, ⟨c0, w0⟩, turn⟩ := q D freeD
  obtain ⟨t3, e3⟩ : ∃ t3 : Shared, t3 = { t2 with heap := t2.heap.push { cls := .type "set", dict := none, data := .set #[] 0 (.fresh 0 0 (!X.w.params.followText "set-order")) } } := ⟨_, rfl⟩
  have p3 : t3.heap = t2.heap.push { cls := .type "set", dict := none, data := .set #[] 0 (.fresh 0 0 (!X.w.params.followText "set-order")) } := by rw [e3]
  obtain ⟨G3, eG⟩ : ∃ G3, G3 = upd G2 D (SetO X.w D (fun _ => false) 0) := ⟨_, rfl⟩
  have I3 : Inv X pins σ G3 t3 := by
    rw [e3, eG, eD]
    exact I2.laid (t' := t2.toks) (fun b o e => Heap.get?_push_of_some _ e) (Nat.le_refl _) (setO_new (setR_fresh X.w))
  rw [← eG] at w0
  have f3 : ∀ b ∈ fp, FpOk X pins G3 b ∧ b < t3.heap.objs.size := fun b hb => by
    obtain ⟨o, e, _⟩ := T.obj _ _ st2 b hb
    have lt := Heap.lt_size e
    have ne : b ≠ D := by rw [eD]; exact Nat.ne_of_lt lt
    exact ⟨⟨by rw [eG, upd_ne ne]; exact (f2 b hb).1, (f2 b hb).2⟩, by rw [p3, Heap.size_push]; exact Nat.lt_succ_of_lt lt⟩
  have st3 : tn 0 t3.heap := T.keep _ _ _ st2 fun b _ o e => by rw [p3]; exact Heap.get?_push_of_some _ e
  have I4 := block_start I3 ok hN f3
  obtain ⟨cs, ecs⟩ : ∃ cs, cs = cellsFrom (t3.heap.objs.size + 1) scp.names (cloFrom X.env.cells scp.names []) := ⟨_, rfl⟩
  obtain ⟨en, een⟩ : ∃ en, en = compEnvC scp cs t3.heap.objs.size X.env := ⟨_, rfl⟩
  have pg := hg t3 G3 t3.heap.objs.size cs fp
  have pt := ht t3 G3 t3.heap.objs.size cs fp
  have pe := he t3 G3 t3.heap.objs.size cs fp
  have pi1 := hi1 t3 G3 t3.heap.objs.size cs fp
  have pg1 := hg1 t3 G3 t3.heap.objs.size cs fp
  have pt1 := ht1 t3 G3 t3.heap.objs.size cs fp
  obtain ⟨t4, e4⟩ : ∃ t4 : Shared, t4 = { t3 with heap := pushCells (t3.heap.push { cls := .type "dict", data := .dict #[] }) scp.names } := ⟨_, rfl⟩
  have st4 : tn 0 t4.heap := T.keep _ _ _ st3 fun b _ o e => by rw [e4]; exact pushCells_keeps _ _ _ _ (Heap.get?_push_of_some _ e)
  rw [← ecs, ← een, ← e4] at I4
  rw [← een] at pg pt pe pi1 pg1 pt1
  have locs : en.locals = t3.heap.objs.size := by rw [een]; rfl
  have goal : codeAny (model X.prog X.w) X.A (.compStart (SC2 m ta sa tb sb ca cb scp ps) 0 (.ref it) (.ref D) en) (compPost (model X.prog X.w) X.A X.xe none (EP X pins σ Q) (.ref D) t3.heap.objs.size) t4 := by
    have own0 : ∀ {σ' : L2.St} {G : Hp} {t : Shared}, Inv (X.blk t3 G3 scp en fp) [] σ' G t → (∀ b ∈ fp, G b = none) → ∀ b ∈ fp, FpOk (X.blk t3 G3 scp en fp) [] G b := fun Z hn b hb =>
      ⟨hn b hb, (Z.ok.exf b hb).1, Z.ok.exfs b hb, .inl hb, fun x c e => (Z.ok.exf b hb).2 x c e, fun p hp => absurd (show p ∈ ([] : List (Addr × Obj)) ++ [] from hp) (by simp)⟩
    have loop : codeAny (model X.prog X.w) X.A (.compLoop (SC2 m ta sa tb sb ca cb scp ps) 0 (.ref it) (.ref D) en) (compPost (model X.prog X.w) X.A X.xe none (EP X pins σ Q) (.ref D) t3.heap.objs.size) t4 := by
      refine codeAny_loop rfl (fun n t => ∃ i G, Inv (X.blk t3 G3 scp en fp) [] (wipe σ (own.map (·.2))) G t ∧ tn i t.heap ∧ (∀ b ∈ fp, G b = none) ∧ W i n G) ?_ c0 ⟨0, G3, I4, st4, fun b hb => (f3 b hb).1.1, w0⟩
      rintro n t5 ⟨i, G5, I5, st5, n5, w5⟩
      show wpAny _ X.A ((compTurn (SC2 m ta sa tb sb ca cb scp ps) 0 (.ref it) (.ref D) en).onRaise fun x => do noteFrame x en; theTreesLotGoes x) _ _ t5
      rw [sc2_first]
      refine wpAny_noted (wpAny_bind (wpAny_standAt (wpAny_bind ?_)))
      rcases turn i n G5 w5 with ⟨end_, done⟩ | ⟨more, Nx, hNx, step⟩
      · refine thnF (T.done (X.blk t3 G3 scp en fp) rfl rfl rfl hc i [] t5 _ G5 (fun _ _ => False) I5 (own0 I5 n5) st5 end_) fun r t6 ⟨hr, I6⟩ => ?_
        subst hr
        refine wpAny_pure ?_
        have I7 : Inv X pins σ G5 t6 := I3.call' (ch := fp) I6.os I6.base I6.hok I6.bare fun b hb => ⟨(f3 b hb).1.2.2.2.1, (f3 b hb).1.2.1, (f3 b hb).1.2.2.2.2.1, (f3 b hb).1.2.2.2.2.2⟩
        have gone : G5 t3.heap.objs.size = none := by
          have z : G5 en.locals = none := I6.free
          rwa [locs] at z
        obtain ⟨mm, hn, _⟩ := I6.loc
        have hn : t6.heap.Ns en.locals mm := hn
        rw [locs] at hn
        obtain ⟨k0, k1, k2, k3, k4, k5⟩ := I3.fpOk (H' := G5) (Nat.le_refl _) gone
        exact ⟨mm, hn, fun h'' sb => ⟨.ref D, G5, I7.turned (t' := t6.toks) (fun b o hb e => (sb.2 b hb).trans e) k0 k1 k3 k4 k5, rfl, done⟩⟩
      · refine thnF (T.item (X.blk t3 G3 scp en fp) rfl rfl rfl hc i [] t5 _ G5 (fun _ _ => False) I5 (own0 I5 n5) st5 more) fun r t6 ⟨u, hr, h6⟩ => ?_
        subst hr
        refine wpAny_bind (thnF h6 fun _ t7 ⟨x, G7, I7, r7, y7, st7, n7⟩ => ?_)
        have J7 := I7.pinned (own0 I7 n7) (T.obj _ _ st7)
        refine wpAny_bind (thnF (pg.run _ t7 _ G7 x u _ J7 r7 (step x G7 y7)) fun _ t8 ⟨σ8, G8, I8, e8, q8⟩ => ?_)
        refine wpAny_bind (thnF (pt.run _ t8 σ8 G8 _ I8 q8) fun b t9 ⟨G9, I9, q9⟩ => ?_)
        -- the end of a turn
        have fin : ∀ {σ9 : L2.St} {t : Shared} {G : Hp}, Inv (X.blk t3 G3 scp en fp) ([] ++ pinsAt fp t7.heap) σ9 G t → (wipe σ (own.map (·.2))).length = σ9.length → (∀ (j : Nat) v, (wipe σ (own.map (·.2)))[j]? = some (some v) → σ9[j]? = some (some v)) → Nx G →
            ∃ c, c < n ∧ ∃ i G, Inv (X.blk t3 G3 scp en fp) [] (wipe σ (own.map (·.2))) G t ∧ tn i t.heap ∧ (∀ b ∈ fp, G b = none) ∧ W i c G := fun {σ9 t G} Z hl hk nx => by
          obtain ⟨c', hm, w'⟩ := hNx G nx
          have kept : ∀ b ∈ fp, ∀ o, t7.heap.get? b = some o → t.heap.get? b = some o ∧ G b = none := fun b hb o e =>
            have z := Z.pin (b, o) (List.mem_append_right _ (List.mem_append_right _ (mem_pinsAt hb e)))
            ⟨z.1, z.2.1⟩
          exact ⟨c', hm, i + 1, G, (Z.unpinned (pins := [])).weak hl hk, T.keep _ _ _ st7 fun b hb o e => (kept b hb o e).1, fun b hb => by
            obtain ⟨o, e, _⟩ := T.obj _ _ st7 b hb
            exact (kept b hb o e).2, w'⟩
        have hl8 : (wipe σ (own.map (·.2))).length = σ8.length := by rw [← e8, wipe_length]
        have hk8 : ∀ (j : Nat) v, (wipe σ (own.map (·.2)))[j]? = some (some v) → σ8[j]? = some (some v) := fun j v e => by
          rw [← e8] at e
          exact (wipe_some e).1
        have hk9 : ∀ (j : Nat) v, (wipe σ (own.map (·.2)))[j]? = some (some v) → (wipe σ8 vb)[j]? = some (some v) := fun j v e => by
          rw [← e8] at e
          obtain ⟨a1, a2⟩ := wipe_some e
          rw [wipe_out fun z => a2 (hv j z)]
          exact a1
        cases b with
        | false =>
          simp only [Bool.false_eq_true, if_false] at q9 ⊢
          exact wpAny_pure ⟨rfl, fin I9 hl8 hk8 q9⟩
        | true =>
          simp only [if_true] at q9 ⊢
          obtain ⟨d, u, hd, mu, q9⟩ := q9
          obtain ⟨od, L9⟩ := I9.lock hd mu
          refine wpAny_bind (thnF (pi1.run _ t9 σ8 _ _ L9 (q9 od)) fun xv t10 hx => ?_)
          refine wpAny_bind (wpAny_standAt (wpAny_bind (wpAny_of_eq (hs1 en xv) (wpAny_bind (wpAny_holding (thnF hx fun itv t11 h11 => ?_))))))
          obtain ⟨it1, fp1, tn1, J1, G11, rfl, I11, T1, st11, f11, V1, ⟨c1, v1⟩, turn1⟩ := h11
          have own1 : ∀ {G : Hp}, (∀ b ∈ fp1, G b = none) → ∀ b ∈ fp1, FpOk (X.blk t3 G3 scp en fp) ([] ++ pinsAt fp t7.heap) G b := fun hn b hb => ⟨hn b hb, (f11 b hb).2⟩
          have inner : codeAny (model X.prog X.w) X.A (.compLoop (SC2 m ta sa tb sb ca cb scp ps) 1 (.ref it1) (.ref D) en)
              (fun r t => match r with
                | .ok _ => ∃ c, c < n ∧ ∃ i G, Inv (X.blk t3 G3 scp en fp) [] (wipe σ (own.map (·.2))) G t ∧ tn i t.heap ∧ (∀ b ∈ fp, G b = none) ∧ W i c G
                | .error _ => False) t11 := by
            refine codeAny_loop rfl (fun k t => ∃ j G, Inv (X.blk t3 G3 scp en fp) ([] ++ pinsAt fp t7.heap) (wipe σ8 vb) G t ∧ tn1 j t.heap ∧ (∀ b ∈ fp1, G b = none) ∧ V1 j k G) ?_ c1 ⟨0, G11, I11.weak (wipe_length _ _) (fun j v e => (wipe_some e).1), st11, fun b hb => (f11 b hb).1, v1⟩
            rintro k t12 ⟨j, G12, I12, st12, n12, w12⟩
            show wpAny _ X.A ((compTurn (SC2 m ta sa tb sb ca cb scp ps) 1 (.ref it1) (.ref D) en).onRaise fun x => do noteFrame x en; theTreesLotGoes x) _ _ t12
            rw [sc2_second]
            refine wpAny_noted (wpAny_bind (wpAny_standAt (wpAny_bind ?_)))
            rcases turn1 j k G12 w12 with ⟨end1, hfz, nx1⟩ | ⟨more1, Ny, hNy, step1⟩
            · refine thnF (T1.done (X.blk t3 G3 scp en fp) rfl rfl rfl hc j _ t12 (wipe σ8 vb) G12 (fun _ _ => False) I12 (own1 n12) st12 end1) fun r t13 ⟨hr, I13⟩ => ?_
              subst hr
              exact wpAny_pure (fin (I13.unlock hfz (I9.nofrz hd mu)) (hl8.trans (wipe_length σ8 vb).symm) hk9 nx1)
            · refine thnF (T1.item (X.blk t3 G3 scp en fp) rfl rfl rfl hc j _ t12 (wipe σ8 vb) G12 (fun _ _ => False) I12 (own1 n12) st12 more1) fun r t13 ⟨u1, hr, h13⟩ => ?_
              subst hr
              refine wpAny_bind (thnF h13 fun _ t14 ⟨x1, G14, I14, r14, y14, st14, n14⟩ => ?_)
              have J14 := I14.pinned (own1 n14) (T1.obj _ _ st14)
              refine wpAny_bind (thnF (pg1.run _ t14 (wipe σ8 vb) G14 x1 u1 _ J14 r14 (step1 x1 G14 y14)) fun _ t15 ⟨σ15, G15, I15, e15, q15⟩ => ?_)
              refine wpAny_bind (thnF (pt1.run _ t15 σ15 G15 _ I15 q15) fun b1 t16 ⟨G16, I16, q16⟩ => ?_)
              have fin1 : ∀ {t : Shared} {G : Hp}, Inv (X.blk t3 G3 scp en fp) (([] ++ pinsAt fp t7.heap) ++ pinsAt fp1 t14.heap) σ15 G t → Ny G → ∃ c, c < k ∧ ∃ j G, Inv (X.blk t3 G3 scp en fp) ([] ++ pinsAt fp t7.heap) (wipe σ8 vb) G t ∧ tn1 j t.heap ∧ (∀ b ∈ fp1, G b = none) ∧ V1 j c G := fun {t G} Z nx => by
                obtain ⟨c', hm, w'⟩ := hNy G nx
                have kept : ∀ b ∈ fp1, ∀ o, t14.heap.get? b = some o → t.heap.get? b = some o ∧ G b = none := fun b hb o e =>
                  have z := Z.pin (b, o) (List.mem_append_right _ (List.mem_append_right _ (mem_pinsAt hb e)))
                  ⟨z.1, z.2.1⟩
                exact ⟨c', hm, j + 1, G, Z.unpinned.weak (by rw [← e15, wipe_length]) (fun j v e => by rw [← e15] at e; exact (wipe_some e).1), T1.keep _ _ _ st14 fun b hb o e => (kept b hb o e).1, fun b hb => by
                  obtain ⟨o, e, _⟩ := T1.obj _ _ st14 b hb
                  exact (kept b hb o e).2, w'⟩
              cases b1 with
              | false =>
                simp only [Bool.false_eq_true, if_false] at q16 ⊢
                exact wpAny_pure ⟨rfl, fin1 I16 q16⟩
              | true =>
                simp only [if_true] at q16 ⊢
                refine wpAny_bind (wpAny_bind (thnF (pe.run _ t16 σ15 G16 _ I16 q16) fun z t17 ⟨yv, G17, I17, r17, k1, S0, n0, ey, hD17, room, nx⟩ => ?_))
                subst ey
                obtain ⟨tk, rfl⟩ := r17
                refine wpAny_bind (wpAny_standAt (wpAny_bind (setR_add (setO_get (X := X.blk t3 G3 scp en fp) I17 hD17) room fun h' sb new => ?_)))
                have he : ∃ u, h'.get? D = some u := by
                  obtain ⟨o, _, _, _, ho, _⟩ := new
                  exact ⟨o, ho⟩
                have I18 := I17.write (e := D) (t' := t17.toks + 1) (by rw [hD17]; trivial) (.inl rfl) (fun b u hb hu => (sb.2 b hb).trans hu) he (setO_new new)
                exact wpAny_pure (wpAny_pure ⟨rfl, fin1 I18 nx⟩)
          refine wpAny_bind (wpAny_runOwn ?_)
          rw [Around.mark_none]
          refine codeAny_mono (sc2_start1 inner (T1.self X.A 0 _ _ _ st11 inner)) fun r t hr => ?_
          cases r with
          | ok f =>
            first
              | exact wpAny_pure ⟨rfl, hr⟩
              | exact wpAny_bind (wpAny_pure (wpAny_pure ⟨rfl, hr⟩))
          | error e => exact hr.elim
    exact PpSet.codeAny_compStart_set loop (T.self X.A 0 _ _ _ st4 loop)
  subst een
  subst ecs
  subst e4
  subst e3
  subst eD
  exact goal
end
end TW

namespace TW
open PySem PySem.Spec PyProof.Rows L2
/-! ### len(x) by an own __len__ -/
section
variable {X : Cx} {CX : CXT} {k k' : Nat} {C : Addr} {ps : List Str} {sp : Sp} {E : XK}
def rLenOwn (C : Addr) (sp : Sp) (E : XK) : List V → Hp → VK → Prop := fun xs H Q => ∃ (a d1 : Addr) (f1 : List (Str × V)), xs = [.ref a] ∧ H a = some (.ins C d1 f1) ∧ sp [.ref a] H (fun v H' => ∃ n : Nat, n < 2 ^ 60 ∧ v = .int n ∧ Q (.int n) H') E
theorem call_lenOwn (D : MethOk X.prog X.w X.K X.mg X.base CX k C "__len__" ps [] sp) (hr : Room k' X.A) (hx : Passes CX X E) (hk : k + 1 ≤ k' := by decide) : CallR X (.builtin "len") (rLenOwn C sp E) := by
  obtain ⟨f, fd, ds, hM, hb, hd, F⟩ := D
  intro pins s σ H xs us Q I r h
  obtain ⟨a, d1, f1, rfl, ea, q⟩ := h
  cases r with
  | cons rx rr =>
    cases rr
    cases rx
    obtain ⟨mA, oA, _⟩ := ins_get I.hok ea
    obtain ⟨odA, IA, _⟩ := oA.look
    obtain ⟨mf, fr⟩ := I.fr
    have room : Room k X.A.in1 := L2.Room.in1 (hr.mono hk)
    have r1 : Vals [V.ref a] [Value.ref a] := .cons rfl .nil
    have hl : ([Value.ref a] ++ ds).length = ps.length := (r1.append hd).length.symm.trans (F.len _ _ _ _ q)
    refine PySem.W.len_K fr I.ok.mod.kin IA hM.at_ hM.fn (wpAny_call (codeAny_mono (F.run X.A.in1 X.stack s H ⟨[.ref a], []⟩ ([.ref a] ++ ds) ([.ref a] ++ []) _ E room I.env0.in1 (hb s [.ref a] I.kIn hl) (r1.append hd) q) fun z s' hq => ?_))
    match z, hq with
    | .error e, hq => exact hx pins σ H s e s' I hq
    | .ok (.ret u), hq =>
      obtain ⟨v', H', I', r', n, hn, ev, q'⟩ := I.after hq
      subst ev
      obtain ⟨t, rfl⟩ := r'
      have e63 : (2 : Int) ^ 63 = 9223372036854775808 := by decide
      have e60 : (2 : Nat) ^ 60 = 1152921504606846976 := by decide
      exact ⟨⟨by omega, by omega⟩, .int n, H', I'.tok _, ⟨_, rfl⟩, q'⟩
end
end TW

namespace TW
open PySem PySem.Spec PyProof.Rows L2
/-! ### the inner walk of a set comprehension of two -/
theorem in_walkS {J : It} {n : Nat} {G : Hp → Prop} {Y : Nat → Hp → V → Hp → Prop} (wk : Walk J n G Y) {w : World} {gb : TG} {kb : TT} {te : TE} {vb : List Nat} {σ : L2.St} {H4 : Hp} {D d : Addr} {od : Obj} {u : HO} {Nx : Hp → Prop} (Pv : Nat → Hp → Prop) (start : Pv 0 H4) (hG : ∀ j H, j ≤ n → Pv j H → G H)
    (step : ∀ j x H H', j < n → Pv j H → Y j H x H' → gb x (wipe σ vb) H' fun σ3 H5 => wipe σ3 vb = wipe σ vb ∧ kb σ3 H5 fun b H6 =>
      if b = true then te σ3 H6 fun y H7 => ∃ (k : Int) (S : Int → Bool) (n : Nat), y = .int k ∧ H7 D = some (SetO w D S n) ∧ n + 1 < scanBound ∧ Pv (j + 1) (upd H7 D (SetO w D (fun z => S z || decide (z = k)) (if S k = true then n else n + 1))) else Pv (j + 1) H6)
    (done : ∀ H, Pv n H → H d = some (.frz od u) ∧ Nx (upd H d u)) :
    ∃ V1 : Nat → Nat → Hp → Prop, (∃ c, V1 0 c H4) ∧ ∀ j c H, V1 j c H →
      (J.stop j H ∧ H d = some (.frz od u) ∧ Nx (upd H d u)) ∨ (J.go j H ∧ ∃ Ny : Hp → Prop, (∀ G, Ny G → ∃ c', c' < c ∧ V1 (j + 1) c' G) ∧ ∀ x G, J.yld j H x G → gb x (wipe σ vb) G fun σ3 H5 => wipe σ3 vb = wipe σ vb ∧ kb σ3 H5 fun b H6 =>
        if b = true then te σ3 H6 fun y H7 => ∃ (k : Int) (S : Int → Bool) (n : Nat), y = .int k ∧ H7 D = some (SetO w D S n) ∧ n + 1 < scanBound ∧ Ny (upd H7 D (SetO w D (fun z => S z || decide (z = k)) (if S k = true then n else n + 1))) else Ny H6) := by
  refine ⟨fun j c H => c = n - j ∧ j ≤ n ∧ Pv j H, ⟨n, by simp, Nat.zero_le _, start⟩, ?_⟩
  rintro j c H ⟨rfl, le, pv⟩
  rcases Nat.lt_or_ge j n with lt | ge
  · exact .inr ⟨wk.goes j H lt (hG j H le pv), Pv (j + 1), fun G pv' => ⟨n - (j + 1), by omega, rfl, lt, pv'⟩, fun x G y => step j x H G lt pv (wk.yields j H x G lt (hG j H le pv) y)⟩
  · have ej : j = n := by omega
    subst ej
    exact .inl ⟨wk.stops H (hG j H le pv), done H pv⟩
end TW

namespace TW
open PySem PySem.Spec PyProof.Rows L2
/-! ### the text by places -/
def top (i : Nat) : Stmt := PySem.Challenge.pw_turnwires_k06_holes_and_known_wires.main.body.getD i (.Pass ⟨0, 0, 0, 0⟩)
/-! ### values -/
def nv (n : Nat) : V := .int (n : Int)
theorem same_upd {H : Hp} {p : Addr} {o : HO} (h : H p = none) : Same H (upd H p o) := fun b x e => by rw [upd_ne (ne_of_none e h)]; exact e
/-- an object that was not tracked ahead may change -/
theorem mutS {H H' : Hp} {p : Addr} {o : HO} (e : Same H H') (h : H p = none) : Same H (upd H' p o) := fun a u ha => by rw [upd_ne (ne_of_none ha h)]; exact e a u ha
theorem small64 {n : Nat} (h : n ≤ 100000) : n < sizeLine := Nat.lt_of_le_of_lt h (by decide)
theorem small21 {n : Nat} (h : n ≤ 2000000) : n < sizeLine := Nat.lt_of_le_of_lt h (by decide)
theorem nv_get {l : List Nat} {i : Nat} {x : Nat} (h : l[i]? = some x) : (l.map nv)[i]? = some (nv x) := by rw [List.getElem?_map, h]; rfl
theorem of_nv_get {l : List Nat} {i : Nat} {y : V} (h : (l.map nv)[i]? = some y) : ∃ x, l[i]? = some x ∧ y = nv x := by
  rw [List.getElem?_map] at h
  cases e : l[i]? with
  | none => rw [e] at h; cases h
  | some x => rw [e] at h; exact ⟨x, rfl, (Option.some.inj h).symm⟩
theorem of_int_get {l : List Int} {i : Nat} {y : V} (h : (l.map V.int)[i]? = some y) : ∃ x, l[i]? = some x ∧ y = V.int x := by
  rw [List.getElem?_map] at h
  cases e : l[i]? with
  | none => rw [e] at h; cases h
  | some x => rw [e] at h; exact ⟨x, rfl, (Option.some.inj h).symm⟩
theorem decT {p : Prop} [Decidable p] {A B : Prop} (h : p) (a : A) : if (decide p) = true then A else B := by rw [decide_eq_true h]; exact iteT a
theorem decF {p : Prop} [Decidable p] {A B : Prop} (h : ¬ p) (b : B) : if (decide p) = true then A else B := by rw [decide_eq_false h]; exact iteF b
theorem yesT {σ : L2.St} {H : Hp} {A B : Hp → Prop} (h : A H) : tYes σ H (fun b H1 => if b = true then A H1 else B H1) := by
  show (if true = true then A H else B H)
  exact iteT h
/-- built-in names that the module leaves alone -/
structure Blt (mg : Str → Option Value) : Prop where
  len : mg "len" = none
  range : mg "range" = none
  int : mg "int" = none
  list : mg "list" = none
  enumerate : mg "enumerate" = none
  dict : mg "dict" = none
  zip : mg "zip" = none
  set : mg "set" = none
  sorted : mg "sorted" = none
  all : mg "all" = none
  abs : mg "abs" = none
  isinstance : mg "isinstance" = none
  bool : mg "bool" = none
section
variable {P : Program} {w : World} {K : PySem.W.Frag} {mg : Str → Option Value} {base : Heap}
/-! ### _law_cell: some int -/
abbrev s_l_cell : Stmt := top 29
theorem sc_l_cell : FnScope ["_law_script", "_law_k"] ["_law_script", "_law_k"] (defScope s_l_cell) := ⟨rfl, rfl, rfl, by decide +kernel, rfl, by decide +kernel, by decide +kernel⟩

def spCell (K : PySem.W.Frag) : Sp := fun vs H Q _ => ∃ (a : Addr) (ns : List Int) (k : Nat), vs = [.ref a, nv k] ∧ SqL K H a (ns.map V.int) ∧ ∀ z : Int, Q (.int z) H
theorem ok_cell {f : Addr} {fd : FuncData} (F : Fun K "_law_cell" "_law_cell" s_l_cell f fd) (T : Blt mg) : FnOk P w K mg base CX0 1 f fd ["_law_script", "_law_k"] (spCell K) := by
  refine F.ok sc_l_cell (fun vs H Q E h => ?_) (fun cdv A outer s H vs Q E hr h => ?_)
  · obtain ⟨a, ns, k, rfl, _⟩ := h; rfl
  · obtain ⟨a, ns, k, rfl, hS, q⟩ := h
    refine ⟨_, (pss_cons (ps_if (pt_cmpR op_lt (pv 1) (pe_callB call_len_seq (by rfl) T.len PySem.boot_len (pa_cons (pv 0) pa_nil)) (nomark _)) (pss_one (ps_ret (pe_ix ix_list (pv 0) (pv 1) (fun _ _ => rfl)))) pss_nil)
    (pss_one (ps_ret pe_int))), ?_⟩
    refine ⟨_, rfl, .ref a, rfl, a, _, rfl, .inl hS, _, _, rfl, rfl, _, rfl, ?_⟩
    by_cases c : k < ns.length
    · refine decT (by rw [List.length_map]; omega) ?_
      obtain ⟨z, hz⟩ : ∃ z, ns[k]? = some z := ⟨ns[k], List.getElem?_eq_getElem c⟩
      exact ⟨.ref a, rfl, _, rfl, a, _, _, _, rfl, rfl, hS, atI_nat (by rw [List.getElem?_map, hz]; rfl), q z⟩
    · refine decF (by rw [List.length_map]; omega) ?_
      exact q 0
end
section
variable {P : Program} {w : World} {K : PySem.W.Frag} {mg : Str → Option Value} {base : Heap}
/-! ### _law_row: a draw below each of the sizes -/
abbrev s_l_row : Stmt := top 30
theorem sc_l_row : FnScope ["_law_cell_here", "_law_sizes", "_law_out", "_law_size", "_law_seed", "_law_k", "_law_mixed"] ["_law_cell_here", "_law_sizes"] (defScope s_l_row) := ⟨rfl, rfl, rfl, by decide +kernel, rfl, by decide +kernel, by decide +kernel⟩

/-- the draws ds below the sizes ms, as far as they go -/
def Below (ds ms : List Nat) : Prop := ∀ (i d m : Nat), ds[i]? = some d → ms[i]? = some m → d < m
theorem Below.snoc {ds ms : List Nat} {d m : Nat} (h : Below ds ms) (hm : ms[ds.length]? = some m) (hd : d < m) : Below (ds ++ [d]) ms := by
  intro i e n he hn
  rw [List.getElem?_append] at he
  by_cases c : i < ds.length
  · rw [if_pos c] at he; exact h i e n he hn
  · rw [if_neg c] at he
    have hi : i - ds.length = 0 := by
      cases k : i - ds.length with
      | zero => rfl
      | succ j => rw [k] at he; simp at he
    rw [hi] at he
    have e1 : d = e := Option.some.inj he
    have e2 : i = ds.length := by omega
    rw [e2, hm] at hn
    rw [← e1, ← Option.some.inj hn]
    exact hd
def spRow (K : PySem.W.Frag) : Sp := fun vs H Q _ => ∃ (c : Int) (a : Addr) (ms : List Nat), vs = [.int c, .ref a] ∧ SqL K H a (ms.map nv) ∧ (∀ m ∈ ms, 0 < m ∧ m < 2 ^ 24) ∧ ms.length ≤ 1000 ∧
  ∀ (ds : List Nat) (p : Addr) (H' : Hp), Same H H' → H p = none → H' p = some (.lst (ds.map nv)) → ds.length = ms.length → Below ds ms → Q (.ref p) H'
theorem nat_int {z : Int} (h : 0 ≤ z) : V.int z = nv z.toNat := by
  show V.int z = V.int (z.toNat : Int)
  rw [Int.toNat_of_nonneg h]
theorem ok_row {f : Addr} {fd : FuncData} (F : Fun K "_law_row" "_law_row" s_l_row f fd) (T : Blt mg) : FnOk P w K mg base CX0 1 f fd ["_law_cell_here", "_law_sizes"] (spRow K) := by
  refine F.ok sc_l_row (fun vs H Q E h => ?_) (fun cdv A outer s H vs Q E hr h => ?_)
  · obtain ⟨c, a, ms, rfl, _⟩ := h; rfl
  · obtain ⟨c, a, ms, rfl, hS, hm, hlen, q⟩ := h
    refine ⟨_, (pss_cons (ps_set (i := 2) sc_l_row.nd rfl (.inl rfl) (pe_lst pa_nil))
    (pss_cons (ps_if (pt_cmpR op_ge (pv 0) (pe_op op_pow pe_int pe_int) (nomark _)) (pss_cons (ps_for PassesOwn.never rfl (pi_list (pv 1)) (pg_name (i := 3) sc_l_row.nd rfl (.inl rfl)) (pss_cons (ps_expr (pe_bm PySem.F.plainAttrs_list PySem.F.slot_list_append PySem.F.type_list_append mt_append (pv 2) (pa_cons (pe_op op_mod (pe_callTy call_int1 (by rfl) T.int (by decide +kernel) (pa_cons (pv 0) pa_nil)) (pv 3)) pa_nil)))
    (pss_one (ps_set (i := 0) sc_l_row.nd rfl (.inl rfl) (pe_op op_fdiv (pv 0) (pv 3))))))
    (pss_one (ps_ret (pv 2)))) pss_nil)
    (pss_cons (ps_set (i := 4) sc_l_row.nd rfl (.inl rfl) (pe_op op_mod (pe_callTy call_int1 (by rfl) T.int (by decide +kernel) (pa_cons (pv 0) pa_nil)) pe_int))
    (pss_cons (ps_for PassesOwn.never rfl (pi_range1 (by rfl) T.range (pa_cons (pe_callB call_len_seq (by rfl) T.len PySem.boot_len (pa_cons (pv 1) pa_nil)) pa_nil)) (pg_name (i := 5) sc_l_row.nd rfl (.inl rfl)) (pss_cons (ps_set (i := 6) sc_l_row.nd rfl (.inl rfl) (pe_op op_add (pe_op op_mod (pe_callTy call_int1 (by rfl) T.int (by decide +kernel) (pa_cons (pe_op op_pow (pe_op op_add (pe_op op_add (pv 4) (pe_op op_mul pe_int (pv 5))) pe_int) pe_int) pa_nil)) pe_int) (pv 5)))
    (pss_one (ps_expr (pe_bm PySem.F.plainAttrs_list PySem.F.slot_list_append PySem.F.type_list_append mt_append (pv 2) (pa_cons (pe_op op_mod (pe_callTy call_int1 (by rfl) T.int (by decide +kernel) (pa_cons (pe_op op_mod (pe_callTy call_int1 (by rfl) T.int (by decide +kernel) (pa_cons (pe_op op_mul (pv 6) pe_int) pa_nil)) pe_int) pa_nil)) (pe_ix ix_list (pv 1) (pv 5) (fun _ _ => rfl))) pa_nil))))))
    (pss_one (ps_ret (pv 2))))))), ?_⟩
    -- out = []
    refine ⟨Nat.zero_le _, fun o no => ?_⟩
    have s1 : Same H (upd H o (.lst [])) := same_upd no
    refine ⟨_, rfl, _, _, rfl, rfl, ⟨by decide, by decide, by decide⟩, _, _, rfl, rfl, _, rfl, ?_⟩
    refine ite2 (fun cc => ?_) (fun cc => ?_)
    · -- the great cell
      refine ⟨_, rfl, a, rfl, ⟨_, s1.seq hS⟩, for_list (K := K) (a := a) (xs := ms.map nv) (fun i σ H1 => ∃ (z : Int) (v : Option V) (ds : List Nat), σ = [some (.int z), some (.ref a), some (.ref o), v, none, none, none] ∧ Same H H1 ∧ H1 o = some (.lst (ds.map nv)) ∧ ds.length = i ∧ Below ds ms)
        ⟨c, none, [], rfl, s1, upd_same, rfl, fun i d m h => by simp at h⟩ (fun i σ H1 _ ⟨_, _, _, _, s2, _⟩ => s2.seq hS) ?_ ?_⟩
      · rintro i y σ H1 hi ⟨z, v, ds, rfl, s2, ho, hl, hb⟩
        obtain ⟨m, hmi, rfl⟩ := of_nv_get hi
        obtain ⟨m0, m1⟩ := hm m (List.mem_of_getElem? hmi)
        have h0 : 0 ≤ z % (m : Int) := Int.emod_nonneg _ (by omega)
        have h1 : z % (m : Int) < m := Int.emod_lt_of_pos _ (by omega)
        have hli : i < ms.length := (List.getElem?_eq_some_iff.mp hmi).1
        refine ⟨_, rfl, .inl ⟨rfl, _, .inl (.inl ho)⟩, _, rfl, .inl ⟨z, rfl, _, rfl, _, _, rfl, rfl, (by show (0 : Int) < m; omega), o, _, _, rfl, rfl, ho, small64 (by rw [List.length_map]; omega), ?_⟩⟩
        refine ⟨_, rfl, _, rfl, _, _, rfl, rfl, ⟨by omega, by omega⟩, ?_⟩
        refine ⟨z / m, _, ds ++ [(z % (m : Int)).toNat], rfl, mutS s2 no, ?_, by rw [List.length_append, hl]; rfl, hb.snoc (by rw [hl]; exact hmi) (by omega)⟩
        dsimp only
        rw [upd_same, List.map_append, nat_int h0]
        rfl
      · rintro σ H1 ⟨z, v, ds, rfl, s2, ho, hl, hb⟩
        exact ⟨_, rfl, q ds o H1 s2 no ho (by rw [hl, List.length_map]) hb⟩
    · -- seed
      refine ⟨_, rfl, .inl ⟨c, rfl, _, _, rfl, rfl, (by show (0 : Int) < 2147483647; decide), ?_⟩⟩
      dsimp only
      have g0 : 0 ≤ c % (2147483647 : Int) := Int.emod_nonneg _ (by decide)
      have g1 : c % (2147483647 : Int) < 2147483647 := Int.emod_lt_of_pos _ (by decide)
      generalize c % (2147483647 : Int) = sd at g0 g1
      refine ⟨.ref a, rfl, a, _, rfl, .inl (s1.seq hS), ((ms.map nv).length : Int), rfl, by omega, by rw [List.length_map]; omega, ?_⟩
      rw [Int.toNat_natCast, List.length_map]
      refine for_range (lo := 0) (n := ms.length) (fun i σ H1 => ∃ (v1 v2 : Option V) (ds : List Nat), σ = [some (.int c), some (.ref a), some (.ref o), none, some (.int sd), v1, v2] ∧ Same H H1 ∧ H1 o = some (.lst (ds.map nv)) ∧ ds.length = i ∧ Below ds ms)
        ⟨none, none, [], rfl, s1, upd_same, rfl, fun i d m h => by simp at h⟩ ?_ ?_
      · rintro i σ H1 hi ⟨v1, v2, ds, rfl, s2, ho, hl, hb⟩
        obtain ⟨m, hmi⟩ : ∃ m, ms[i]? = some m := ⟨ms[i], List.getElem?_eq_getElem hi⟩
        obtain ⟨m0, m1⟩ := hm m (List.mem_of_getElem? hmi)
        rw [Int.zero_add]
        refine ⟨_, rfl, _, rfl, _, _, rfl, rfl, .inl ⟨by decide, by decide⟩, _, _, rfl, rfl, _, _, rfl, rfl, _, _, rfl, rfl, ⟨by decide, by decide, by omega⟩, .inl ⟨_, rfl, _, _, rfl, rfl, (by show (0 : Int) < 2147483647; decide), _, rfl, _, _, rfl, rfl, ?_⟩⟩
        dsimp only
        generalize hX : (sd + 7919 * (i : Int) + 104729) ^ (5 : Int).toNat = x
        have x0 : 0 ≤ x % (2147483647 : Int) := Int.emod_nonneg _ (by decide)
        have x1 : x % (2147483647 : Int) < 2147483647 := Int.emod_lt_of_pos _ (by decide)
        generalize x % (2147483647 : Int) = y at x0 x1
        refine ⟨_, rfl, .inl ⟨rfl, _, .inl (.inl ho)⟩, _, rfl, _, _, rfl, rfl, .inl ⟨by omega, by omega⟩, .inl ⟨_, rfl, _, _, rfl, rfl, (by show (0 : Int) < 2147483629; decide), .inl ⟨_, rfl, .ref a, rfl, _, rfl, a, _, _, _, rfl, rfl, s2.seq hS, atI_nat (nv_get hmi), ?_⟩⟩⟩
        have h0 : 0 ≤ (y + (i : Int)) * 40692 % 2147483629 % (m : Int) := Int.emod_nonneg _ (by omega)
        have h1 : (y + (i : Int)) * 40692 % 2147483629 % (m : Int) < m := Int.emod_lt_of_pos _ (by omega)
        refine ⟨_, _, rfl, rfl, (by omega), o, _, _, rfl, rfl, ho, small64 (by rw [List.length_map]; omega), ?_⟩
        refine ⟨_, _, ds ++ [((y + (i : Int)) * 40692 % 2147483629 % (m : Int)).toNat], rfl, mutS s2 no, ?_, by rw [List.length_append, hl]; rfl, hb.snoc (by rw [hl]; exact hmi) (by omega)⟩
        dsimp only
        rw [upd_same, List.map_append, nat_int h0]
        rfl
      · rintro σ H1 ⟨v1, v2, ds, rfl, s2, ho, hl, hb⟩
        exact ⟨_, rfl, q ds o H1 s2 no ho hl hb⟩
end
section
variable {P : Program} {w : World} {K : PySem.W.Frag} {mg : Str → Option Value} {base : Heap}
/-! ### _law_drawn: a list of the places below n, each once -/
abbrev s_l_drawn : Stmt := top 33
theorem sc_l_drawn : FnScope ["_law_cell_here", "_law_n", "_law_left", "_law_draw", "_law_k"] ["_law_cell_here", "_law_n"] (defScope s_l_drawn) := ⟨rfl, rfl, rfl, by decide +kernel, rfl, by decide +kernel, by decide +kernel⟩

def spDrawn : Sp := fun vs H Q _ => ∃ (c : Int) (n : Nat), vs = [.int c, nv n] ∧ n ≤ 100 ∧
  ∀ (im : List Nat) (p : Addr) (H' : Hp), Same H H' → H p = none → H' p = some (.lst (im.map nv)) → IsPerm im → im.length = n → Q (.ref p) H'
theorem rgV_nat (n : Nat) : rgV 0 (n : Int) = (List.range n).map nv := by
  unfold rgV
  rw [show ((n : Int) - 0).toNat = n by omega]
  refine List.map_congr_left fun i _ => ?_
  show V.int (0 + (i : Int)) = V.int i
  rw [Int.zero_add]
theorem ok_drawn {f : Addr} {fd : FuncData} (F : Fun K "_law_drawn" "_law_drawn" s_l_drawn f fd) (T : Blt mg) (D_l_row : DefOk P w K mg base CX0 1 "_law_row" ["_law_cell_here", "_law_sizes"] [] (spRow K)) :
    FnOk P w K mg base CX0 2 f fd ["_law_cell_here", "_law_n"] spDrawn := by
  refine F.ok sc_l_drawn (fun vs H Q E h => ?_) (fun cdv A outer s H vs Q E hr h => ?_)
  · obtain ⟨c, n, rfl, _⟩ := h; rfl
  · obtain ⟨c, n, rfl, hn, q⟩ := h
    refine ⟨_, (pss_cons (ps_set (i := 2) sc_l_drawn.nd rfl (.inr rfl) (pe_listRg rfl (by rfl) T.list (prg_1 (by rfl) T.range (pv 1))))
    (pss_one (ps_ret (pe_lc (own := [("_law_draw", 3)]) (tt := tYes) (te := tBM K "list" rPopAt (tVar 2) (tCons (tVar 3) tNil)) rfl sc_l_drawn.nd (pi_list (pe_d D_l_row hr pass0 (pa_cons (pv 0) (pa_cons (pe_lc (own := [("_law_k", 4)]) (tt := tYes) rfl sc_l_drawn.nd (pi_range1 (by rfl) T.range (pa_cons (pv 1) pa_nil)) (blkOk_by (N := ["_law_cell_here", "_law_n", "_law_left", "_law_draw", "_law_k"]) (sc := defScope s_l_drawn) (by decide +kernel)) (fun _ _ _ _ _ => (pg_name (i := 4) sc_l_drawn.nd rfl (.inl rfl))) (fun _ _ _ _ _ => pts_nil) (fun _ _ _ _ _ => by exact (pe_op op_sub (pv 1) (pv 4)))) pa_nil)))) (blkOk_by (N := ["_law_cell_here", "_law_n", "_law_left", "_law_draw", "_law_k"]) (sc := defScope s_l_drawn) (by decide +kernel)) (fun _ _ _ _ _ => (pg_name (i := 3) sc_l_drawn.nd rfl (.inl rfl))) (fun _ _ _ _ _ => pts_nil) (fun _ _ _ _ _ => by exact (pe_bm PySem.F.plainAttrs_list PySem.F.slot_list_pop PySem.F.type_list_pop mt_popAt (pv 2) (pa_cons (pv 3) pa_nil))))))), ?_⟩
    -- _law_left = list(range(_law_n))
    refine ⟨_, rfl, _, rfl, ⟨by omega, by omega, by omega, by omega, by omega⟩, fun L nL => ?_⟩
    rw [rgV_nat]
    have s1 : Same H (upd H L (.lst ((List.range n).map nv))) := same_upd nL
    -- the sizes
    refine ⟨_, rfl, _, rfl, _, rfl, by omega, by omega, fun D nD => ?_⟩
    rw [Int.toNat_natCast]
    refine lc_range (lo := 0) (n := n) (fun i H1 => Same (upd H L (.lst ((List.range n).map nv))) H1 ∧ H1 D = some (.lst ((((List.range n).map fun k => n - k).take i).map nv))) ⟨same_upd nD, upd_same⟩ ?_ ?_
    · rintro i H1 hi ⟨s2, hD⟩
      rw [Int.zero_add]
      refine ⟨rfl, ?_⟩
      refine yesT ?_
      refine ⟨_, rfl, _, rfl, _, _, rfl, rfl, _, hD, small64 (by rw [List.length_map, List.length_take]; omega), mutS s2 nD, ?_⟩
      have e : ((List.range n).map fun k => n - k)[i]? = some (n - i) := by rw [List.getElem?_map, List.getElem?_range hi]; rfl
      rw [upd_same, List.take_add_one, e, List.map_append]
      dsimp only
      rw [show (n : Int) - (i : Int) = ((n - i : Nat) : Int) by omega]
      rfl
    · rintro H1 ⟨s2, hD⟩
      rw [List.take_of_length_le (by rw [List.length_map, List.length_range]; exact Nat.le_refl _)] at hD
      have nLD : L ≠ D := ne_of_none (H := upd H L (.lst ((List.range n).map nv))) upd_same nD
      refine ⟨c, D, (List.range n).map fun k => n - k, rfl, SqL.of hD, fun m hm => ?_, by rw [List.length_map, List.length_range]; omega, fun ds p H2 s3 np hp hl hb => ?_⟩
      · obtain ⟨k, hk, rfl⟩ := List.mem_map.mp hm
        have := List.mem_range.mp hk
        omega
      rw [List.length_map, List.length_range] at hl
      have s4 : Same (upd H L (.lst ((List.range n).map nv))) H2 := s2.trans s3
      have hL2 : H2 L = some (.lst ((List.range n).map nv)) := s4 L _ upd_same
      have nLp : L ≠ p := ne_of_none (s2 L _ upd_same) np
      -- the draws
      refine ⟨p, rfl, ⟨_, SqL.of hp⟩, fun O nO => ?_⟩
      have nOL : L ≠ O := ne_of_none hL2 nO
      have nOp : p ≠ O := ne_of_none hp nO
      refine lc_list (K := K) (a := p) (xs := ds.map nv) (fun i H3 => ∃ im rest : List Nat, Same H H3 ∧ H3 p = some (.lst (ds.map nv)) ∧ H3 L = some (.lst (rest.map nv)) ∧ H3 O = some (.lst (im.map nv)) ∧ im.length = i ∧ rest.length + i = n ∧ (im ++ rest).Perm (List.range n))
        ⟨[], List.range n, (s1.trans s4).trans (same_upd nO), by rw [upd_ne nOp]; exact hp, by rw [upd_ne nOL]; exact hL2, upd_same, rfl, by rw [List.length_range]; rfl, List.Perm.refl _⟩ (fun i H3 _ ⟨_, _, _, h, _⟩ => SqL.of h) ?_ ?_
      · rintro i y H3 hi ⟨im, rest, s5, h1, h2, h3, l1, l2, pm⟩
        obtain ⟨d, hd, rfl⟩ := of_nv_get hi
        have hin : i < n := by
          have := (List.getElem?_eq_some_iff.mp hd).1
          omega
        have hdn : d < n - i := hb i d (n - i) hd (by rw [List.getElem?_map, List.getElem?_range hin]; rfl)
        obtain ⟨x, hx⟩ : ∃ x, rest[d]? = some x := ⟨rest[d]'(by omega), List.getElem?_eq_getElem (by omega)⟩
        have hel := erase_len hx
        refine ⟨rfl, ?_⟩
        refine yesT ?_
        refine ⟨.ref L, rfl, .inl ⟨rfl, _, .inl (.inl h2)⟩, _, rfl, L, _, _, d, _, rfl, rfl, h2, by omega, by omega, ?_, nv_get hx, im.map nv, ?_, small64 (by rw [List.length_map, l1]; omega), im ++ [x], rest.eraseIdx d, ?_⟩
        · rw [seqIndex_of (by omega) (by rw [List.length_map]; omega), Int.toNat_natCast]
        · rw [upd_ne nOL.symm]; exact h3
        refine ⟨?_, ?_, ?_, ?_, by rw [List.length_append, l1]; rfl, by omega, draw_step pm hx⟩
        · exact mutS (mutS s5 nL) ((s1.trans s4).free nO)
        · rw [upd_ne nOp, upd_ne nLp.symm]; exact h1
        · rw [upd_ne nOL, upd_same, erase_map]
        · rw [upd_same, List.map_append]; rfl
      · rintro H3 ⟨im, rest, s5, h1, h2, h3, l1, l2, pm⟩
        rw [List.length_map, hl] at l1 l2
        have er : rest = [] := List.length_eq_zero_iff.mp (by omega)
        rw [er, List.append_nil] at pm
        obtain ⟨ip, il⟩ := isPerm_of pm
        exact q im O H3 s5 ((s1.trans s4).free nO) h3 ip il
end
/-! ### lists of lists of places -/
structure Rg (H : Hp) (as : List Addr) (rs : List (List Nat)) : Prop where
  len : as.length = rs.length
  at_ : ∀ (i : Nat) (a : Addr) (r : List Nat), as[i]? = some a → rs[i]? = some r → H a = some (.lst (r.map nv))
theorem Rg.nil {H : Hp} : Rg H [] [] := ⟨rfl, fun i a r h _ => by simp at h⟩
theorem Rg.mono {H H' : Hp} {as : List Addr} {rs : List (List Nat)} (g : Rg H as rs) (s : Same H H') : Rg H' as rs := ⟨g.len, fun i a r h1 h2 => s _ _ (g.at_ i a r h1 h2)⟩
theorem Rg.know {H : Hp} {as : List Addr} {rs : List (List Nat)} (g : Rg H as rs) {a : Addr} (h : a ∈ as) : ∃ r : List Nat, H a = some (.lst (r.map nv)) := by
  obtain ⟨i, hi, e⟩ := List.mem_iff_getElem.mp h
  have hr : i < rs.length := by rw [← g.len]; exact hi
  exact ⟨rs[i], g.at_ i a _ (by rw [← e]; exact List.getElem?_eq_getElem hi) (List.getElem?_eq_getElem hr)⟩
theorem Rg.upd {H : Hp} {as : List Addr} {rs : List (List Nat)} (g : Rg H as rs) {p : Addr} {o : HO} (h : p ∉ as) : Rg (upd H p o) as rs := ⟨g.len, fun i a r h1 h2 => by
  rw [upd_ne (fun e => h (by rw [← e]; exact List.mem_of_getElem? h1))]
  exact g.at_ i a r h1 h2⟩
theorem Rg.snoc {H : Hp} {as : List Addr} {rs : List (List Nat)} (g : Rg H as rs) {a : Addr} {r : List Nat} (h : H a = some (.lst (r.map nv))) : Rg H (as ++ [a]) (rs ++ [r]) := by
  refine ⟨by rw [List.length_append, List.length_append, g.len]; rfl, fun i b q h1 h2 => ?_⟩
  rw [List.getElem?_append] at h1 h2
  by_cases c : i < as.length
  · rw [if_pos c] at h1
    rw [if_pos (by rw [← g.len]; exact c)] at h2
    exact g.at_ i b q h1 h2
  · rw [if_neg c] at h1
    rw [if_neg (by rw [← g.len]; exact c)] at h2
    cases k : i - as.length with
    | zero =>
      rw [k] at h1
      rw [← g.len, k] at h2
      have e1 : a = b := Option.some.inj h1
      have e2 : r = q := Option.some.inj h2
      rw [← e1, ← e2]
      exact h
    | succ j => rw [k] at h1; simp at h1
theorem all_flat (l : List Nat) : (l.map nv).all flatV = true := by
  rw [List.all_eq_true]
  intro x hx
  obtain ⟨y, _, rfl⟩ := List.mem_map.mp hx
  rfl
theorem inV_nv (p : Nat) (l : List Nat) : inV (nv p) (l.map nv) = decide (p ∈ l) := by
  unfold inV
  induction l with
  | nil => rfl
  | cons a l ih =>
    rw [List.map_cons, List.any_cons, ih]
    show ((a : Int) == (p : Int) || decide (p ∈ l)) = decide (p ∈ a :: l)
    by_cases c : p = a
    · subst c; simp
    · have : ((a : Int) == (p : Int)) = false := by
        rw [beq_eq_false_iff_ne]
        omega
      rw [this, Bool.false_or]
      simp [c]
section
variable {P : Program} {w : World} {K : PySem.W.Frag} {mg : Str → Option Value} {base : Heap}
/-! ### _law_rings -/
abbrev s_l_rings : Stmt := top 35
theorem sc_l_rings : FnScope ["_law_images", "_law_out", "_law_seen", "_law_place", "_law_ring"] ["_law_images"] (defScope s_l_rings) := ⟨rfl, rfl, rfl, by decide +kernel, rfl, by decide +kernel, by decide +kernel⟩

def spRings (K : PySem.W.Frag) : Sp := fun vs H Q _ => ∃ (a : Addr) (im : List Nat), vs = [.ref a] ∧ SqL K H a (im.map nv) ∧ IsPerm im ∧ im.length ≤ 1000 ∧
  ∀ (o : Addr) (as : List Addr) (H' : Hp), Same H H' → H o = none → (∀ a ∈ as, H a = none) → o ∉ as → as.Nodup → H' o = some (.lst (as.map V.ref)) → Rg H' as (rings (ap im) im.length) → Q (.ref o) H'
theorem ok_l_rings {f : Addr} {fd : FuncData} (F : Fun K "_law_rings" "_law_rings" s_l_rings f fd) (T : Blt mg) : FnOk P w K mg base CX0 1 f fd ["_law_images"] (spRings K) := by
  refine F.ok sc_l_rings (fun vs H Q E h => ?_) (fun cdv A outer s H vs Q E hr h => ?_)
  · obtain ⟨a, im, rfl, _⟩ := h; rfl
  · obtain ⟨a, im, rfl, hS, hI, hn, q⟩ := h
    have P := hI.perm
    refine ⟨_, (pss_cons (ps_set (i := 1) sc_l_rings.nd rfl (.inl rfl) (pe_lst pa_nil))
    (pss_cons (ps_set (i := 2) sc_l_rings.nd rfl (.inl rfl) (pe_lst pa_nil))
    (pss_cons (ps_for PassesOwn.never rfl (pi_range1 (by rfl) T.range (pa_cons (pe_callB call_len_seq (by rfl) T.len PySem.boot_len (pa_cons (pv 0) pa_nil)) pa_nil)) (pg_name (i := 3) sc_l_rings.nd rfl (.inl rfl)) (pss_one (ps_if (pt_cmpR op_notIn_seq (pv 3) (pv 2) rfl) (pss_cons (ps_set (i := 4) sc_l_rings.nd rfl (.inl rfl) (pe_lst (pa_cons (pv 3) pa_nil)))
    (pss_cons (ps_while PassesOwn.never (pt_cmpR op_ne (pe_ix ix_list (pv 0) (pe_ix ix_list (pv 4) (pe_un un_neg pe_int) (fun _ _ => rfl)) (fun _ _ => rfl)) (pv 3) (nomark _)) (pss_one (ps_expr (pe_bm PySem.F.plainAttrs_list PySem.F.slot_list_append PySem.F.type_list_append mt_append (pv 4) (pa_cons (pe_ix ix_list (pv 0) (pe_ix ix_list (pv 4) (pe_un un_neg pe_int) (fun _ _ => rfl)) (fun _ _ => rfl)) pa_nil)))))
    (pss_cons (ps_set (i := 2) sc_l_rings.nd rfl (.inl rfl) (pe_op op_cat (pv 2) (pv 4)))
    (pss_one (ps_if (pt_cmpR op_gt (pe_callB call_len_seq (by rfl) T.len PySem.boot_len (pa_cons (pv 4) pa_nil)) pe_int (nomark _)) (pss_one (ps_expr (pe_bm PySem.F.plainAttrs_list PySem.F.slot_list_append PySem.F.type_list_append mt_append (pv 1) (pa_cons (pv 4) pa_nil)))) pss_nil))))) pss_nil)))
    (pss_one (ps_ret (pv 1)))))), ?_⟩
    -- out = []; seen = []
    refine ⟨Nat.zero_le _, fun o no => ⟨Nat.zero_le _, fun e ne => ?_⟩⟩
    have s1 : Same H (upd H o (.lst [])) := same_upd no
    have s2 : Same H (upd (upd H o (.lst [])) e (.lst [])) := s1.trans (same_upd ne)
    have noe : o ≠ e := ne_of_none (H := upd H o (.lst [])) upd_same ne
    refine ⟨_, rfl, a, _, rfl, .inl (s2.seq hS), _, rfl, by omega, by rw [List.length_map]; omega, ?_⟩
    rw [Int.toNat_natCast, List.length_map]
    refine for_range (lo := 0) (n := im.length) (fun i σ H1 => ∃ (v3 v4 : Option V) (sn : List Nat) (x : Addr) (as : List Addr), σ = [some (.ref a), some (.ref o), some (.ref x), v3, v4] ∧ Same H H1 ∧
        H1 x = some (.lst (sn.map nv)) ∧ (∀ y, y ∈ sn ↔ ∃ q, q < i ∧ y ∈ ring (ap im) im.length q) ∧ sn.length ≤ i * 1000 ∧ x ≠ o ∧ H x = none ∧
        H1 o = some (.lst (as.map V.ref)) ∧ Rg H1 as (ringsTo (ap im) im.length i) ∧ o ∉ as ∧ as.Nodup ∧ (∀ a ∈ as, H a = none))
      ⟨none, none, [], e, [], rfl, s2, upd_same, fun y => ⟨fun h => by simp at h, fun ⟨q, h, _⟩ => absurd h (Nat.not_lt_zero _)⟩, Nat.zero_le _, noe.symm, s1.free ne, by rw [upd_ne noe, upd_same]; rfl, Rg.nil, by simp, by simp, by simp⟩ ?_ ?_
    · rintro i σ H1 hi ⟨v3, v4, sn, x, as, rfl, s3, hx, hsn, hsl, nxo, nx, ho, hg, hoa, hnd, hfr⟩
      rw [Int.zero_add]
      -- place not in seen
      refine ⟨_, rfl, _, rfl, x, _, rfl, .inl (SqL.of hx), rfl, all_flat sn, _, rfl, ?_⟩
      have ei : inV (V.int (i : Int)) (sn.map nv) = decide (i ∈ sn) := inV_nv i sn
      rw [ei]
      by_cases c : i ∈ sn
      · rw [decide_eq_true c]
        refine iteF ?_
        have l0 := (seen_lead P hi hsn).mp c
        exact ⟨_, v4, sn, x, as, rfl, s3, hx, seen_skip P hi hsn c, by omega, nxo, nx, ho, by rw [ringsTo_skip l0]; exact hg, hoa, hnd, hfr⟩
      · rw [decide_eq_false c]
        refine iteT ?_
        have l1 : lead (ap im) im.length i = true := by
          cases z : lead (ap im) im.length i with
          | true => rfl
          | false => exact absurd ((seen_lead P hi hsn).mpr z) c
        obtain ⟨p0, pe, pl, _⟩ := per_spec P hi
        -- ring = [place]
        refine ⟨_, rfl, by show 1 ≤ sizeLine; decide, fun r nr => ?_⟩
        have nro : o ≠ r := ne_of_none ho nr
        have nrx : x ≠ r := ne_of_none hx nr
        have s4 : ∀ z, Same H (upd H1 r z) := fun z => mutS s3 (s3.free nr)
        -- while
        refine ⟨fun m σ H2 => ∃ j, j < per (ap im) im.length i ∧ m = per (ap im) im.length i - (j + 1) ∧ σ = [some (.ref a), some (.ref o), some (.ref x), some (nv i), some (.ref r)] ∧ H2 = upd H1 r (.lst ((pref (ap im) i (j + 1)).map nv)), ⟨_, 0, p0, rfl, rfl, rfl⟩, ?_⟩
        rintro m σ H2 ⟨j, hj, rfl, rfl, rfl⟩
        have hA := (s4 (.lst ((pref (ap im) i (j + 1)).map nv))).seq hS
        have eP : (pref (ap im) i (j + 1)).map nv = (pref (ap im) i j).map nv ++ [nv (it (ap im) j i)] := by rw [pref_succ, List.map_append]; rfl
        have hlt : it (ap im) j i < im.length := P.it_lt j hi
        have hR : SqL K (upd H1 r (.lst ((pref (ap im) i (j + 1)).map nv))) r ((pref (ap im) i (j + 1)).map nv) := SqL.of upd_same
        have gl : atI ((pref (ap im) i (j + 1)).map nv) (-1) = some (nv (it (ap im) j i)) := by rw [eP]; exact atI_last _ _
        have gi : atI (im.map nv) ((it (ap im) j i : Nat) : Int) = some (nv (it (ap im) (j + 1) i)) := atI_nat (nv_get (ap_get hlt))
        refine ⟨_, rfl, _, rfl, 1, rfl, r, _, _, _, rfl, rfl, hR, gl, a, _, _, _, rfl, rfl, hA, gi, _, rfl, rfl, _, rfl, ?_⟩
        by_cases cb : it (ap im) (j + 1) i = i
        · -- the ring is whole
          have ej := (back_iff P hi hj).mp cb
          rw [cb, decide_eq_true rfl]
          refine iteF ?_
          have eR : pref (ap im) i (j + 1) = ring (ap im) im.length i := by rw [ej]; rfl
          rw [eR]
          -- seen = seen + ring
          refine ⟨_, rfl, _, rfl, x, r, _, _, rfl, rfl, by rw [upd_ne nrx]; exact hx, upd_same, ?_, fun x' nx' => ?_⟩
          · rw [List.length_map, List.length_map, ring_len]
            exact Nat.le_of_lt (small21 (by have : i * 1000 ≤ 1000 * 1000 := Nat.mul_le_mul_right _ (by omega); omega))
          rw [← List.map_append]
          have nro' : o ≠ x' := ne_of_none (H := upd H1 r _) (by rw [upd_ne nro]; exact ho) nx'
          have nrr' : r ≠ x' := ne_of_none (H := upd H1 r _) upd_same nx'
          have s5 : Same H (upd (upd H1 r (.lst ((ring (ap im) im.length i).map nv))) x' (.lst ((sn ++ ring (ap im) im.length i).map nv))) := (s4 _).trans (same_upd nx')
          have hro : r ∉ as := fun hm => by
            obtain ⟨z, hz⟩ := hg.know hm
            rw [hz] at nr
            cases nr
          have hxas : x' ∉ as := fun hm => by
            obtain ⟨z, hz⟩ := hg.know hm
            rw [upd_ne (fun e => hro (by rw [← e]; exact hm)), hz] at nx'
            cases nx'
          have hlen : (sn ++ ring (ap im) im.length i).length ≤ (i + 1) * 1000 := by rw [List.length_append, ring_len]; omega
          -- if len(ring) > 1
          refine ⟨_, rfl, r, _, rfl, .inl (SqL.of (by rw [upd_ne nrr']; exact upd_same)), _, _, rfl, rfl, _, rfl, ?_⟩
          by_cases ci : ap im i = i
          · refine decF (by rw [List.length_map, ring_len, (per_one P hi).mpr ci]; omega) ?_
            refine ⟨_, _, _, x', as, rfl, s5, upd_same, seen_more hsn, hlen, nro'.symm, (s4 _).free nx', by rw [upd_ne nro', upd_ne nro]; exact ho, ?_, hoa, hnd, hfr⟩
            rw [ringsTo_stay ci]
            exact (hg.upd hro).upd hxas
          · refine decT (by
              rw [List.length_map, ring_len]
              have : per (ap im) im.length i ≠ 1 := fun z => ci ((per_one P hi).mp z)
              omega) ?_
            have ho5 : (upd (upd H1 r (.lst ((ring (ap im) im.length i).map nv))) x' (.lst ((sn ++ ring (ap im) im.length i).map nv))) o = some (.lst (as.map V.ref)) := by rw [upd_ne nro', upd_ne nro]; exact ho
            refine ⟨_, rfl, .inl ⟨rfl, _, SqL.of ho5⟩, _, rfl, o, _, _, rfl, rfl, ho5, small64 (by rw [List.length_map, hg.len]; have := ringsTo_len (ap im) im.length i; omega), ?_⟩
            refine ⟨_, _, _, x', as ++ [r], rfl, mutS s5 no, by rw [upd_ne nro'.symm]; exact upd_same, seen_more hsn, hlen, nro'.symm, (s4 _).free nx', by rw [upd_same, List.map_append]; rfl, ?_, ?_, ?_, ?_⟩
            · rw [ringsTo_more l1 ci]
              refine Rg.snoc (((hg.upd hro).upd hxas).upd hoa) ?_
              rw [upd_ne nro.symm, upd_ne nrr']
              exact upd_same
            · rw [List.mem_append, not_or]
              exact ⟨hoa, fun h => nro (List.mem_singleton.mp h)⟩
            · exact nd_snoc hnd hro
            · intro b hb
              rcases List.mem_append.mp hb with h | h
              · exact hfr b h
              · rw [List.mem_singleton.mp h]; exact s3.free nr
        · have ej : j + 1 ≠ per (ap im) im.length i := fun z => cb ((back_iff P hi hj).mpr z)
          rw [decide_eq_false (fun z => cb (by have := V.int.inj z; omega))]
          refine iteT ⟨fun σ' H' => σ' = [some (.ref a), some (.ref o), some (.ref x), some (nv i), some (.ref r)] ∧ H' = upd H1 r (.lst ((pref (ap im) i (j + 1 + 1)).map nv)), fun σ' H' h => ⟨_, ?_, j + 1, by omega, rfl, h.1, h.2⟩, ?_⟩
          · omega
          refine ⟨_, rfl, .inl ⟨rfl, _, hR⟩, _, rfl, _, rfl, 1, rfl, r, _, _, _, rfl, rfl, hR, gl, a, _, _, _, rfl, rfl, hA, gi, r, _, _, rfl, rfl, upd_same, small64 (by rw [List.length_map, pref_len]; omega), rfl, ?_⟩
          rw [upd_upd, pref_succ (ap im) i (j + 1), List.map_append]
          rfl
    · rintro σ H1 ⟨v3, v4, sn, x, as, rfl, s3, hx, hsn, hsl, nxo, nx, ho, hg, hoa, hnd, hfr⟩
      exact ⟨_, rfl, q o as H1 s3 no hfr hoa hnd ho hg⟩
end
/-! ### dicts from places to places -/
def natKV (g : List (Nat × Nat)) : List (Key × V) := g.map fun p => (Sum.inl (p.1 : Int), nv p.2)
theorem natKV_append (a b : List (Nat × Nat)) : natKV (a ++ b) = natKV a ++ natKV b := List.map_append
theorem natKV_none : ∀ {g : List (Nat × Nat)} {x : Nat}, x ∉ g.map Prod.fst → valV (natKV g) (Sum.inl (x : Int)) = none
  | [], x, _ => rfl
  | (a, b) :: g, x, h => by
    have h1 : ¬ x = a := fun e => h (by rw [e]; exact List.mem_cons_self)
    have h2 : x ∉ g.map Prod.fst := fun e => h (List.mem_cons_of_mem _ e)
    show valV ((Sum.inl (a : Int), nv b) :: natKV g) _ = none
    rw [valV_neg (fun e => h1 (by have := Sum.inl.inj e; omega))]
    exact natKV_none h2
theorem natKV_some : ∀ {g : List (Nat × Nat)} {x y : Nat}, (g.map Prod.fst).Nodup → (x, y) ∈ g → valV (natKV g) (Sum.inl (x : Int)) = some (nv y)
  | [], x, y, _, h => by cases h
  | (a, b) :: g, x, y, hn, h => by
    have hn' : (a :: g.map Prod.fst).Nodup := hn
    obtain ⟨n1, n2⟩ := List.nodup_cons.mp hn'
    show valV ((Sum.inl (a : Int), nv b) :: natKV g) _ = _
    rcases List.mem_cons.mp h with e | e
    · have e1 : x = a := congrArg Prod.fst e
      have e2 : y = b := congrArg Prod.snd e
      rw [e1, e2, valV_pos rfl]
    · have hxa : ¬ a = x := fun q => n1 (by rw [q]; exact List.mem_map.mpr ⟨(x, y), e, rfl⟩)
      rw [valV_neg (fun q => hxa (by have := Sum.inl.inj q; omega))]
      exact natKV_some n2 e
theorem natKV_len (g : List (Nat × Nat)) : (natKV g).length = g.length := List.length_map _
/-- what a dict of a map's pairs tells -/
theorem graph_get {f : Nat → Nat} {l : List Nat} (hn : l.Nodup) (x : Nat) : valV (natKV (graph f l)) (Sum.inl (x : Int)) = if x ∈ l then some (nv (f x)) else none := by
  by_cases c : x ∈ l
  · rw [if_pos c]
    exact natKV_some (by rw [graph_fst]; exact hn) (List.mem_map.mpr ⟨x, c, rfl⟩)
  · rw [if_neg c]
    exact natKV_none (by rw [graph_fst]; exact c)
theorem cutV_from1 (xs : List V) : cutV xs (some 1) none = xs.drop 1 := by
  unfold cutV
  rw [show HT.sIx xs.length 0 (some 1) = min 1 xs.length from HT.sIx_nat xs.length 0 1, HT.sIx_none]
  cases xs with
  | nil => rfl
  | cons x r =>
    rw [show min 1 (x :: r).length = 1 by rw [List.length_cons]; omega]
    show (List.take ((x :: r).length - 1) r) = r
    rw [List.length_cons, Nat.add_sub_cancel]
    exact List.take_length
theorem cutV_to1 (xs : List V) : cutV xs none (some 1) = xs.take 1 := by
  unfold cutV
  rw [show HT.sIx xs.length xs.length (some 1) = min 1 xs.length from HT.sIx_nat xs.length xs.length 1, HT.sIx_none, List.drop_zero, Nat.sub_zero]
  cases xs with
  | nil => rfl
  | cons x r => rw [show min 1 (x :: r).length = 1 by rw [List.length_cons]; omega]
theorem rot_nv (r : List Nat) : (rot r).map nv = (r.map nv).drop 1 ++ (r.map nv).take 1 := by
  unfold rot
  rw [List.map_append, List.map_drop, List.map_take]
section
variable {P : Program} {w : World} {K : PySem.W.Frag} {mg : Str → Option Value} {base : Heap}
/-- a def with defaults that lets nothing out -/
theorem okD {x qual : Str} {params : Arguments} {body : List Stmt} {scope : Scope} {dvs : List V} {kws : List (Str × V)} {f : Addr} {fd : FuncData} {N ps : List Str} {k : Nat} {sp : Sp} (F : FunD K x qual params body scope dvs kws f fd) (S : FnScope N ps scope) (len : ∀ vs H Q E, sp vs H Q E → vs.length = ps.length)
    (hb : ∀ (cdv : Value) (A : Around) (outer : List Env) (s : Shared) (H : Hp) (vs : List V) (Q : VK) (E : XK), Room k (A.deeper (envOfC qual scope s.heap.objs.size f cdv)) → sp vs H Q E →
      ∃ t, PSs (cxOf CX0 P w K mg base N qual scope f cdv A outer s H E).nox body t ∧ t { nx := fun _ H' => Q .non H', rt := Q } (start N vs) H) : FnOk P w K mg base CX0 (k + 1) f fd ps sp :=
  F.ok S len fun cdv A outer s H vs Q E hr h => by
    obtain ⟨t, p, q⟩ := hb cdv A outer s H vs Q E hr h
    exact ⟨t, p.nox, q⟩
/-! ### moves_of -/
abbrev s_moves_of : Stmt := top 10
theorem sc_moves_of : FnScope ["rings", "size", "moves", "index", "ring", "place", "image"] ["rings", "size"] (defScope s_moves_of) := ⟨rfl, rfl, rfl, by decide +kernel, rfl, by decide +kernel, by decide +kernel⟩

/-- the size: None, or a number above all places -/
def SizeV (z : V) (rs : List (List Nat)) : Prop := z = .non ∨ ∃ n : Nat, z = nv n ∧ ∀ x ∈ rs.flatten, x < n
def spMoves (K : PySem.W.Frag) : Sp := fun vs H Q _ => ∃ (a : Addr) (z : V) (as : List Addr) (rs : List (List Nat)), vs = [.ref a, z] ∧ SqL K H a (as.map V.ref) ∧ Rg H as rs ∧ SizeV z rs ∧ (∀ r ∈ rs, r ≠ []) ∧ rs.flatten.Nodup ∧ rs.flatten.length ≤ 1000 ∧
  ∀ (d : Addr) (H' : Hp), Same H H' → H d = none → H' d = some (.dK (natKV (pairs rs))) → Q (.ref d) H'
theorem ok_moves_of {f : Addr} {fd : FuncData} (F : FunD K "moves_of" "moves_of" (defArgs s_moves_of) (defBody s_moves_of) (defScope s_moves_of) [.non] [] f fd) (T : Blt mg) : FnOk P w K mg base CX0 1 f fd ["rings", "size"] (spMoves K) := by
  refine okD F sc_moves_of (fun vs H Q E h => ?_) (fun cdv A outer s H vs Q E hr h => ?_)
  · obtain ⟨a, z, as, rs, rfl, _⟩ := h; rfl
  · obtain ⟨a, z, as, rs, rfl, hS, hg, hz, hne, hnd, hlen, q⟩ := h
    have hu := hu_of hr
    refine ⟨_, (pss_cons (ps_set (i := 2) sc_moves_of.nd rfl (.inl rfl) pe_dnewK)
    (pss_cons (ps_for PassesOwn.never rfl (pi_enum (by rfl) T.enumerate (pa_cons (pv 0) pa_nil)) (pg_tup rfl (pgs_cons (pg_name (i := 3) sc_moves_of.nd rfl (.inl rfl)) (pgs_cons (pg_name (i := 4) sc_moves_of.nd rfl (.inl rfl)) pgs_nil))) (pss_cons (ps_if (pt_not (pt_truth (pv 4) (by intro _; rfl))) pss_never pss_nil)
    (pss_one (ps_for PassesOwn.never rfl (pi_zip (by rfl) T.zip (pa_cons (pv 4) (pa_cons (pe_op op_cat (pe_slice sl_list (pv 4) (po_some pe_int) po_none) (pe_slice sl_list (pv 4) po_none (po_some pe_int))) pa_nil))) (pg_tup rfl (pgs_cons (pg_name (i := 5) sc_moves_of.nd rfl (.inl rfl)) (pgs_cons (pg_name (i := 6) sc_moves_of.nd rfl (.inl rfl)) pgs_nil))) (pss_cons (ps_if (PW.pt (pw_or (pt_cmpR op_lt (pv 5) pe_int (nomark _)) (pw_or (pt_cmp (pc_din hu (pv 5) (pv 2))) (pw_or1 (PW.pt (pw_and (pt_cmpR op_notN (pv 1) pe_non (nomark _)) (pw_and1 (pt_cmpR op_ge (pv 5) (pv 1) (nomark _))))))))) pss_never pss_nil)
    (pss_one (ps_dput hu (pv 2) (pv 5) (pv 6) rfl)))))))
    (pss_one (ps_ret (pv 2))))), ?_⟩
    intro d nd
    have s1 : Same H (upd H d (.dK [])) := same_upd nd
    refine ⟨.ref a, rfl, a, _, rfl, s1.seq hS, ?_⟩
    refine for_it (walk_enum (K := K) (a := a) (xs := as.map V.ref)) (fun i σ H1 => ∃ v3 v4 v5 v6 : Option V, σ = [some (.ref a), some z, some (.ref d), v3, v4, v5, v6] ∧ Same H H1 ∧ H1 d = some (.dK (natKV (pairs (rs.take i)))))
      ⟨none, none, none, none, rfl, s1, upd_same⟩ (fun i σ H1 _ ⟨_, _, _, _, _, s2, _⟩ => s2.seq hS) ?_ ?_
    · rintro i y σ H1 H2 hi ⟨v3, v4, v5, v6, rfl, s2, hd⟩ ⟨T1, x1, x2, rfl, nT, rfl, f1, f2⟩
      have e1 : x1 = V.int (i : Nat) := (Option.some.inj f1).symm
      subst e1
      rw [List.length_map] at hi
      obtain ⟨b, hb⟩ : ∃ b, as[i]? = some b := ⟨as[i], List.getElem?_eq_getElem hi⟩
      have e2 : x2 = V.ref b := by
        have f3 : (as.map V.ref)[i]? = some x2 := f2
        rw [List.getElem?_map, hb] at f3
        exact (Option.some.inj f3).symm
      subst e2
      have hir : i < rs.length := by rw [← hg.len]; exact hi
      obtain ⟨r, hr'⟩ : ∃ r, rs[i]? = some r := ⟨rs[i], List.getElem?_eq_getElem hir⟩
      have hbr := hg.at_ i b r hb hr'
      have hr0 : r ≠ [] := hne r (List.mem_of_getElem? hr')
      have dT : d ≠ T1 := ne_of_none hd nT
      have s3 : Same H (upd H1 T1 (.tup [V.int (i : Nat), V.ref b])) := mutS s2 (s2.free nT)
      -- index, ring = the pair
      refine ⟨T1, _, rfl, SqT.of upd_same, rfl, _, _, rfl, _, _, rfl, rfl, ?_⟩
      -- if not ring
      have hB : SqL K (upd H1 T1 (.tup [V.int (i : Nat), V.ref b])) b (r.map nv) := SqL.of (s3 _ _ hbr)
      refine ⟨_, rfl, true, .inl ⟨_, hB, by cases r with | nil => exact absurd rfl hr0 | cons x r => rfl⟩, iteF ?_⟩
      -- zip(ring, ring[1:] + ring[:1])
      refine ⟨_, rfl, _, rfl, 1, rfl, b, _, rfl, hB, fun p1 np1 => ⟨_, rfl, 1, rfl, b, _, rfl, (same_upd np1).seq hB, fun p2 np2 => ?_⟩⟩
      rw [cutV_from1, cutV_to1]
      rw [cutV_from1] at np2
      have n12 : p1 ≠ p2 := ne_of_none (upd_same (H := upd H1 T1 _)) np2
      refine ⟨p1, p2, _, _, rfl, rfl, by rw [upd_ne n12]; exact upd_same, upd_same, Nat.le_trans (show _ ≤ 2000 from ?_) (by decide), fun p3 np3 => ?_⟩
      · rw [List.length_drop, List.length_take, List.length_map]
        have : r.length ≤ rs.flatten.length := by
          have h1 : r.length = (nxt r).length := (nxt_len r).symm
          have h2 := pairs_snoc hr'
          have h3 := pairs_take_len rs (i + 1)
          rw [h2, List.length_append] at h3
          omega
        omega
      rw [← rot_nv]
      have sA : Same (upd H1 T1 (.tup [V.int (i : Nat), V.ref b])) (upd (upd (upd (upd H1 T1 (.tup [V.int (i : Nat), V.ref b])) p1 (.lst ((r.map nv).drop 1))) p2 (.lst ((r.map nv).take 1))) p3 (.lst ((rot r).map nv))) :=
        ((same_upd np1).trans (same_upd np2)).trans (same_upd np3)
      refine ⟨b, p3, _, _, rfl, sA.seq hB, SqL.of upd_same, ?_⟩
      have dp1 : d ≠ p1 := ne_of_none (H := upd H1 T1 _) (by rw [upd_ne dT]; exact hd) np1
      have dp2 : d ≠ p2 := ne_of_none (H := upd (upd H1 T1 _) p1 _) (by rw [upd_ne dp1, upd_ne dT]; exact hd) np2
      have dp3 : d ≠ p3 := ne_of_none (H := upd (upd (upd H1 T1 _) p1 _) p2 _) (by rw [upd_ne dp2, upd_ne dp1, upd_ne dT]; exact hd) np3
      have n3b : p3 ≠ b := fun e => by
        have h1 := (same_upd (o := .lst ((r.map nv).drop 1)) np1).trans (same_upd (o := .lst ((r.map nv).take 1)) np2)
        have h2 := h1 b _ (s3 _ _ hbr)
        rw [e, h2] at np3
        cases np3
      refine for_it (walk_zip (K := K) (a := b) (b := p3) (xs := r.map nv) (ys := (rot r).map nv) (n := r.length) (by rw [List.length_map, List.length_map, rot_len]; omega))
        (fun j σ H3 => ∃ v5 v6 : Option V, σ = [some (.ref a), some z, some (.ref d), some (V.int (i : Nat)), some (.ref b), v5, v6] ∧ Same H H3 ∧ H3 p3 = some (.lst ((rot r).map nv)) ∧ H3 d = some (.dK (natKV (pairs (rs.take i) ++ (nxt r).take j))))
        ⟨v5, v6, rfl, s3.trans sA, upd_same, by rw [upd_ne dp3, upd_ne dp2, upd_ne dp1, upd_ne dT, List.take_zero, List.append_nil]; exact hd⟩ (fun j σ H3 _ ⟨_, _, _, s4, h4, _⟩ => ⟨SqL.of (s4 _ _ hbr), SqL.of h4⟩) ?_ ?_
      · rintro j y σ H3 H4 hj ⟨v5, v6, rfl, s4, h4, h5⟩ ⟨T2, x1, x2, rfl, nT2, rfl, g1, g2⟩
        obtain ⟨x, hx, rfl⟩ := of_nv_get g1
        obtain ⟨y, hy, rfl⟩ := of_nv_get g2
        have dT2 : d ≠ T2 := ne_of_none h5 nT2
        have h5' : (upd H3 T2 (.tup [nv x, nv y])) d = some (.dK (natKV (pairs (rs.take i) ++ (nxt r).take j))) := by rw [upd_ne dT2]; exact h5
        have hno : valV (natKV (pairs (rs.take i) ++ (nxt r).take j)) (Sum.inl (x : Int)) = none := natKV_none (not_before hnd hr' hx)
        refine ⟨T2, _, rfl, SqT.of upd_same, rfl, _, _, rfl, _, _, rfl, rfl, ?_⟩
        -- the test
        refine ⟨_, rfl, _, _, rfl, rfl, _, rfl, decF (by omega) ?_⟩
        refine ⟨_, rfl, _, rfl, d, none, rfl, .inl ⟨_, _, .of h5', rfl, hno.symm⟩, _, rfl, iteF ?_⟩
        have fin : ∀ D : Ends, D.nx = (fun σ H' => ∃ v5 v6 : Option V, σ = [some (.ref a), some z, some (.ref d), some (V.int (i : Nat)), some (.ref b), v5, v6] ∧ Same H H' ∧ H' p3 = some (.lst ((rot r).map nv)) ∧ H' d = some (.dK (natKV (pairs (rs.take i) ++ (nxt r).take (j + 1))))) →
            sDPut (tVar 2) (tVar 5) (tVar 6) D [some (.ref a), some z, some (.ref d), some (V.int (i : Nat)), some (.ref b), some (nv x), some (nv y)] (upd H3 T2 (.tup [nv x, nv y])) := fun D hD => by
          refine ⟨_, rfl, _, rfl, _, rfl, d, _, rfl, DPut.k (k := Sum.inl (x : Int)) h5' ?_, ?_⟩
          · rw [natKV_len, List.length_append, List.length_take]
            refine small64 ?_
            have h3 := pairs_take_len rs (i + 1)
            rw [pairs_snoc hr', List.length_append] at h3
            omega
          · rw [hD]
            have p3T : p3 ≠ T2 := ne_of_none h4 nT2
            have dp3' : p3 ≠ d := dp3.symm
            refine ⟨_, _, rfl, mutS (mutS s4 (s4.free nT2)) nd, by rw [upd_ne dp3', upd_ne p3T]; exact h4, ?_⟩
            rw [upd_same, putK_new _ hno, take_snoc (nxt_get hx hy), ← List.append_assoc, natKV_append (_ ++ _)]
            rfl
        rcases hz with rfl | ⟨n, rfl, hn⟩
        · exact ⟨_, rfl, rfl, _, rfl, iteF (iteF (fin _ rfl))⟩
        · have hxn : x < n := hn x (List.mem_flatten.mpr ⟨r, List.mem_of_getElem? hr', List.mem_of_getElem? hx⟩)
          refine ⟨_, rfl, rfl, _, rfl, iteT ⟨_, rfl, _, rfl, _, _, rfl, rfl, _, rfl, decF (by omega) (fin _ rfl)⟩⟩
      · rintro σ H3 ⟨v5, v6, rfl, s4, h4, h5⟩
        refine ⟨_, _, v5, v6, rfl, s4, ?_⟩
        have et : (nxt r).take r.length = nxt r := List.take_of_length_le (by rw [nxt_len]; exact Nat.le_refl _)
        rw [h5, pairs_snoc hr', et]
    · rintro σ H1 ⟨v3, v4, v5, v6, rfl, s2, hd⟩
      refine ⟨_, rfl, q d H1 s2 nd ?_⟩
      rw [hd, List.length_map, hg.len, List.take_length]
end
section
variable {P : Program} {w : World} {K : PySem.W.Frag} {mg : Str → Option Value} {base : Heap}
/-! ### rings_of -/
abbrev s_rings_of : Stmt := top 11
theorem sc_rings_of : FnScope ["moves", "rings", "seen", "first", "ring", "place"] ["moves"] (defScope s_rings_of) := ⟨rfl, rfl, rfl, by decide +kernel, rfl, by decide +kernel, by decide +kernel⟩

/-- the places xs, each once, below n; f leads them, and stays elsewhere -/
structure Moves (f : Nat → Nat) (n : Nat) (ks : List Nat) : Prop where
  perm : PermF f n
  nd : ks.Nodup
  lt : ∀ k ∈ ks, k < n
  all : ∀ x, x < n → f x ≠ x → x ∈ ks
  cl : ∀ k ∈ ks, f k ∈ ks
  few : ks.length < 64
  small : ks.length * n ≤ 64000
def spRingsOf : Sp := fun vs H Q _ => ∃ (d : Addr) (f : Nat → Nat) (n : Nat) (ks : List Nat), vs = [.ref d] ∧ H d = some (.dK (natKV (graph f ks))) ∧ Moves f n ks ∧
  ∀ (o : Addr) (as : List Addr) (H' : Hp), Same H H' → H o = none → (∀ a ∈ as, H a = none) → o ∉ as → as.Nodup → H' o = some (.lst (as.map V.ref)) → Rg H' as (rings f n) → Q (.ref o) H'
theorem nodup_sub {l m : List Nat} (h : l.Nodup) (s : ∀ x ∈ l, x ∈ m) : l.length ≤ m.length := by
  induction l generalizing m with
  | nil => exact Nat.zero_le _
  | cons x l ih =>
    have nx := List.nodup_cons.mp h
    have hx := s x List.mem_cons_self
    have h1 := ih nx.2 (m := m.erase x) fun y hy => (List.mem_erase_of_ne (fun e => nx.1 (by rw [← e]; exact hy))).mpr (s y (List.mem_cons_of_mem _ hy))
    rw [List.length_erase_of_mem hx] at h1
    have h2 : 0 < m.length := List.length_pos_of_mem hx
    rw [List.length_cons]
    omega
theorem it_in {f : Nat → Nat} {n : Nat} {ks : List Nat} (M : Moves f n ks) {y : Nat} (h : y ∈ ks) : ∀ j, it f j y ∈ ks
  | 0 => h
  | j + 1 => M.cl _ (it_in M h j)
theorem ok_rings_of {f : Addr} {fd : FuncData} (F : Fun K "rings_of" "rings_of" s_rings_of f fd) (T : Blt mg) : FnOk P w K mg base CX0 1 f fd ["moves"] spRingsOf := by
  refine F.ok sc_rings_of (fun vs H Q E h => ?_) (fun cdv A outer s H vs Q E hr h => ?_)
  · obtain ⟨d, f, n, ks, rfl, _⟩ := h; rfl
  · obtain ⟨d, f, n, ks, rfl, hd, M, q⟩ := h
    have PF := M.perm
    have hu := hu_of hr
    have get : ∀ {H' : Hp}, Same H H' → ∀ y, y ∈ ks → DGet H' d (V.int (y : Int)) (some (nv (f y))) := fun s y hy =>
      .inl ⟨_, Sum.inl (y : Int), .of (s _ _ hd), rfl, by rw [graph_get M.nd, if_pos hy]⟩
    refine ⟨_, (pss_cons (ps_set (i := 1) sc_rings_of.nd rfl (.inl rfl) (pe_lst pa_nil))
    (pss_cons (ps_set (i := 2) sc_rings_of.nd rfl (.inl rfl) (pe_callTy0 cr_set0 (by rfl) T.set (by decide +kernel)))
    (pss_cons (ps_for PassesOwn.never rfl (pi_list (pe_callB (call_sortedDI rfl) (by rfl) T.sorted (by decide +kernel) (pa_cons (pv 0) pa_nil))) (pg_name (i := 3) sc_rings_of.nd rfl (.inl rfl)) (pss_cons (ps_if (PW.pt (pw_or (pt_cmpR or_sin (pv 3) (pv 2) rfl) (pw_or1 (pt_cmpR op_eq (pe_dget hu (pv 0) (pv 3) (fun _ _ => rfl)) (pv 3) (nomark _))))) (pss_one ps_continue) pss_nil)
    (pss_cons (ps_set (i := 4) sc_rings_of.nd rfl (.inl rfl) (pe_lst (pa_cons (pv 3) pa_nil)))
    (pss_cons (ps_set (i := 5) sc_rings_of.nd rfl (.inl rfl) (pe_dget hu (pv 0) (pv 3) (fun _ _ => rfl)))
    (pss_cons (ps_while PassesOwn.never (pt_cmpR op_ne (pv 5) (pv 3) (nomark _)) (pss_cons (ps_expr (pe_bm PySem.F.plainAttrs_list PySem.F.slot_list_append PySem.F.type_list_append mt_append (pv 4) (pa_cons (pv 5) pa_nil)))
    (pss_cons (ps_expr (pe_sadd (pv 2) (pa_cons (pv 5) pa_nil)))
    (pss_one (ps_set (i := 5) sc_rings_of.nd rfl (.inl rfl) (pe_dget hu (pv 0) (pv 5) (fun _ _ => rfl)))))))
    (pss_one (ps_expr (pe_bm PySem.F.plainAttrs_list PySem.F.slot_list_append PySem.F.type_list_append mt_append (pv 1) (pa_cons (pv 4) pa_nil)))))))))
    (pss_one (ps_ret (pv 1)))))), ?_⟩
    -- rings = []; seen = set()
    refine ⟨Nat.zero_le _, fun o no => ⟨rfl, fun e ne => ?_⟩⟩
    have s1 : Same H (upd H o (.lst [])) := same_upd no
    have s2 : Same H (upd (upd H o (.lst [])) e (SetO w e (fun _ => false) 0)) := s1.trans (same_upd ne)
    have noe : o ≠ e := ne_of_none (H := upd H o (.lst [])) upd_same ne
    -- sorted(moves)
    refine ⟨_, rfl, d, _, ks.map fun (k : Nat) => (k : Int), rfl, .of (s2 _ _ hd), ?_, by rw [List.length_map]; exact M.few, fun ys p hp hs np => ?_⟩
    · unfold natKV graph
      rw [List.map_map, List.map_map, List.map_map]
      rfl
    obtain ⟨zs, rfl, zp, zs1⟩ := perm_nat hp hs M.nd
    have zlt : ∀ y ∈ zs, y < n := fun y hy => M.lt y (zp.mem_iff.mp hy)
    have zall : ∀ x, x < n → f x ≠ x → x ∈ zs := fun x h1 h2 => zp.mem_iff.mpr (M.all x h1 h2)
    have zlen : zs.length = ks.length := zp.length_eq
    have em : (zs.map fun (k : Nat) => (k : Int)).map V.int = zs.map nv := by rw [List.map_map]; rfl
    rw [em] at *
    have nop : o ≠ p := ne_of_none (H := upd (upd H o (.lst [])) e _) (by rw [upd_ne noe]; exact upd_same) np
    have nep : e ≠ p := ne_of_none (H := upd (upd H o (.lst [])) e _) upd_same np
    have ne' : H e = none := s1.free ne
    have np' : H p = none := s2.free np
    refine ⟨p, rfl, ⟨_, SqL.of upd_same⟩, for_list (K := K) (a := p) (xs := zs.map nv) (fun i σ H1 => ∃ (v3 v4 v5 : Option V) (S : Int → Bool) (c : Nat) (as : List Addr), σ = [some (.ref d), some (.ref o), some (.ref e), v3, v4, v5] ∧ Same H H1 ∧
        H1 p = some (.lst (zs.map nv)) ∧ H1 e = some (SetO w e S c) ∧ (∀ x : Nat, S (x : Int) = true ↔ Marked f n (zs.take i) x) ∧ c ≤ i * ks.length ∧
        H1 o = some (.lst (as.map V.ref)) ∧ Rg H1 as (ringsIn f n (zs.take i)) ∧ o ∉ as ∧ as.Nodup ∧ (∀ a ∈ as, H a = none))
      ⟨none, none, none, fun _ => false, 0, [], rfl, s2.trans (same_upd np), upd_same, by rw [upd_ne nep]; exact upd_same, fun x => ⟨fun h => by simp at h, fun ⟨q, h, _⟩ => by simp at h⟩, Nat.zero_le _, by rw [upd_ne nop, upd_ne noe, upd_same]; rfl, Rg.nil, by simp, by simp, by simp⟩
      (fun i σ H1 _ ⟨_, _, _, _, _, _, _, _, h, _⟩ => SqL.of h) ?_ ?_⟩
    · rintro i yy σ H1 hi ⟨v3, v4, v5, S, c, as, rfl, s3, h1, h2, hS, hc, ho, hg, hoa, hnd, hfr⟩
      obtain ⟨y, hy, rfl⟩ := of_nv_get hi
      have hyz : y ∈ zs := List.mem_of_getElem? hy
      have hyk : y ∈ ks := zp.mem_iff.mp hyz
      have hyn : y < n := zlt y hyz
      have hil : i < zs.length := (List.getElem?_eq_some_iff.mp hy).1
      have ml := marked_iff PF zs1 zlt zall hy
      -- first in seen
      refine ⟨_, rfl, _, rfl, (y : Int), e, S, c, rfl, rfl, h2, _, rfl, ?_⟩
      have stay : headB f n y = false → ∃ (u3 u4 u5 : Option V) (S : Int → Bool) (c : Nat) (as : List Addr), ([some (.ref d), some (.ref o), some (.ref e), some (nv y), v4, v5] : L2.St) = [some (.ref d), some (.ref o), some (.ref e), u3, u4, u5] ∧ Same H H1 ∧
          H1 p = some (.lst (zs.map nv)) ∧ H1 e = some (SetO w e S c) ∧ (∀ x : Nat, S (x : Int) = true ↔ Marked f n (zs.take (i + 1)) x) ∧ c ≤ (i + 1) * ks.length ∧
          H1 o = some (.lst (as.map V.ref)) ∧ Rg H1 as (ringsIn f n (zs.take (i + 1))) ∧ o ∉ as ∧ as.Nodup ∧ (∀ a ∈ as, H a = none) := fun hb =>
        ⟨_, v4, v5, S, c, as, rfl, s3, h1, h2, fun x => (hS x).trans (marked_stay hy hb x).symm, by rw [Nat.succ_mul]; omega, ho, by rw [ringsIn_stay hy hb]; exact hg, hoa, hnd, hfr⟩
      by_cases cs : S (y : Int) = true
      · rw [cs]
        refine iteT (iteT ?_)
        have l0 := ml.mp ((hS y).mp cs)
        obtain ⟨w3, w4, w5, S1, c1, as1, q1, q2⟩ := stay (by unfold headB; rw [l0]; rfl)
        exact ⟨w3, w4, w5, S1, c1, as1, q1, q2⟩
      · have cs' : S (y : Int) = false := by simpa using cs
        rw [cs']
        refine iteF ?_
        have l1 : lead f n y = true := by
          cases z : lead f n y with
          | true => rfl
          | false => exact absurd ((hS y).mpr (ml.mpr z)) cs
        refine ⟨_, rfl, _, rfl, d, _, rfl, get s3 y hyk, _, rfl, rfl, _, rfl, ?_⟩
        by_cases cf : f y = y
        · refine decT (by rw [cf]) ?_
          obtain ⟨w3, w4, w5, S1, c1, as1, q1, q2⟩ := stay (by unfold headB; rw [cf]; simp)
          exact ⟨w3, w4, w5, S1, c1, as1, q1, q2⟩
        refine decF (fun z => cf (by have := V.int.inj z; omega)) ?_
        have hb : headB f n y = true := headB_iff.mpr ⟨l1, cf⟩
        obtain ⟨p0, pe, pl, _⟩ := per_spec PF hyn
        have p1 : per f n y ≠ 1 := fun z => cf ((per_one PF hyn).mp z)
        -- ring = [first]; place = moves[first]
        refine ⟨_, rfl, by show 1 ≤ sizeLine; decide, fun r nr => ?_⟩
        have nro : o ≠ r := ne_of_none ho nr
        have nre : e ≠ r := ne_of_none h2 nr
        have nrp : p ≠ r := ne_of_none h1 nr
        have hrn : H r = none := s3.free nr
        have hra : r ∉ as := fun hm => by
          obtain ⟨z, hz⟩ := hg.know hm
          rw [hz] at nr
          cases nr
        have hea : e ∉ as := fun hm => by
          obtain ⟨z, hz⟩ := hg.know hm
          rw [hz] at h2
          cases h2
        have s4 : Same H (upd H1 r (.lst [nv y])) := mutS s3 hrn
        refine ⟨_, rfl, _, rfl, d, _, rfl, get s4 y hyk, ?_⟩
        -- while place != first
        have few := M.few
        have bnd : (i + 1) * ks.length ≤ 3969 := Nat.le_trans (Nat.mul_le_mul (show i + 1 ≤ 63 by omega) (show ks.length ≤ 63 by omega)) (by decide)
        have pk : per f n y ≤ ks.length := by
          rw [← ring_len f n y]
          exact nodup_sub (ring_nodup PF hyn) fun x hx => by
            obtain ⟨k, e⟩ := (mem_ring PF hyn).mp hx
            rw [← e]
            exact it_in M hyk k
        refine ⟨fun m σ H2 => ∃ (j : Nat) (S' : Int → Bool) (c' : Nat), j < per f n y ∧ m = per f n y - (j + 1) ∧ σ = [some (.ref d), some (.ref o), some (.ref e), some (nv y), some (.ref r), some (nv (it f (j + 1) y))] ∧ Same H H2 ∧
            H2 p = some (.lst (zs.map nv)) ∧ H2 e = some (SetO w e S' c') ∧ (∀ x : Nat, S' (x : Int) = true ↔ (S (x : Int) = true ∨ ∃ k, 1 ≤ k ∧ k < j + 1 ∧ x = it f k y)) ∧ c' ≤ i * ks.length + j ∧
            H2 r = some (.lst ((pref f y (j + 1)).map nv)) ∧ H2 o = some (.lst (as.map V.ref)) ∧ Rg H2 as (ringsIn f n (zs.take i)), ⟨_, 0, S, c, p0, rfl, rfl, s4, by rw [upd_ne nrp]; exact h1, by rw [upd_ne nre]; exact h2, fun x => ⟨fun h => .inl h, fun h => h.elim id fun ⟨k, k1, k2, _⟩ => by omega⟩, hc, upd_same, by rw [upd_ne nro]; exact ho, hg.upd hra⟩, ?_⟩
        rintro m σ H2 ⟨j, S', c', hj, rfl, rfl, t3, t1, t2, tS, tc, tr, to, tg⟩
        have hlt : it f j y < n := PF.it_lt j hyn
        refine ⟨_, rfl, _, rfl, rfl, _, rfl, ?_⟩
        by_cases cb : it f (j + 1) y = y
        · have ej := (back_iff PF hyn hj).mp cb
          rw [cb, decide_eq_true rfl]
          refine iteF ?_
          have eR : pref f y (j + 1) = ring f n y := by rw [ej]; rfl
          rw [eR] at tr
          -- rings.append(ring)
          refine ⟨_, rfl, .inl ⟨rfl, _, SqL.of to⟩, _, rfl, o, _, _, rfl, rfl, to, small64 (by rw [List.length_map, tg.len]; have := ringsIn_len f n (zs.take i); rw [List.length_take] at this; have := M.few; omega), ?_⟩
          have nop' : p ≠ o := nop.symm
          have noe' : e ≠ o := noe.symm
          refine ⟨_, _, _, S', c', as ++ [r], rfl, mutS t3 no, by rw [upd_ne nop']; exact t1, by rw [upd_ne noe']; exact t2, fun x => ?_, ?_, by rw [upd_same, List.map_append]; rfl, ?_, ?_, nd_snoc hnd hra, ?_⟩
          · rw [tS x, hS x, marked_more hy hb x, ring_tail PF hyn, ← ej]
          · rw [Nat.succ_mul]; omega
          · rw [ringsIn_more hy hb]
            exact (tg.upd hoa).snoc (by rw [upd_ne nro.symm]; exact tr)
          · rw [List.mem_append, not_or]
            exact ⟨hoa, fun h => nro (List.mem_singleton.mp h)⟩
          · intro b hb'
            rcases List.mem_append.mp hb' with h | h
            · exact hfr b h
            · rw [List.mem_singleton.mp h]; exact hrn
        · have ej : j + 1 ≠ per f n y := fun z => cb ((back_iff PF hyn hj).mpr z)
          have hk1 : it f (j + 1) y ∈ ks := it_in M hyk (j + 1)
          have hin : i * ks.length + ks.length ≤ 3969 := by rw [← Nat.succ_mul]; exact bnd
          rw [decide_eq_false (fun z => cb (by have := V.int.inj z; omega))]
          refine iteT ⟨fun σ' H' => ∃ (S' : Int → Bool) (c' : Nat), σ' = [some (.ref d), some (.ref o), some (.ref e), some (nv y), some (.ref r), some (nv (it f (j + 1 + 1) y))] ∧ Same H H' ∧
            H' p = some (.lst (zs.map nv)) ∧ H' e = some (SetO w e S' c') ∧ (∀ x : Nat, S' (x : Int) = true ↔ (S (x : Int) = true ∨ ∃ k, 1 ≤ k ∧ k < j + 1 + 1 ∧ x = it f k y)) ∧ c' ≤ i * ks.length + (j + 1) ∧
            H' r = some (.lst ((pref f y (j + 1 + 1)).map nv)) ∧ H' o = some (.lst (as.map V.ref)) ∧ Rg H' as (ringsIn f n (zs.take i)), fun σ' H' ⟨S2, c2, h⟩ => ⟨per f n y - (j + 1 + 1), by omega, j + 1, S2, c2, by omega, rfl, h⟩, ?_⟩
          -- ring.append(place); seen.add(place); place = moves[place]
          refine ⟨_, rfl, .inl ⟨rfl, _, SqL.of tr⟩, _, rfl, r, _, _, rfl, rfl, tr, small64 (by rw [List.length_map, pref_len]; omega), ?_⟩
          have u2 : (upd H2 r (.lst ((pref f y (j + 1)).map nv ++ [nv (it f (j + 1) y)]))) e = some (SetO w e S' c') := by rw [upd_ne nre]; exact t2
          refine ⟨_, rfl, ⟨e, S', c', rfl, u2⟩, _, rfl, e, _, S', c', rfl, rfl, u2, by show c' + 1 < 4096; omega, ?_⟩
          have s5 : Same H (upd (upd H2 r (.lst ((pref f y (j + 1)).map nv ++ [nv (it f (j + 1) y)]))) e (SetO w e (fun k => S' k || decide (k = ((it f (j + 1) y : Nat) : Int))) (if S' ((it f (j + 1) y : Nat) : Int) = true then c' else c' + 1))) := mutS (mutS t3 hrn) ne'
          refine ⟨_, rfl, _, rfl, d, _, rfl, get s5 _ hk1, ?_⟩
          refine ⟨_, _, rfl, s5, by rw [upd_ne nep.symm, upd_ne nrp]; exact t1, upd_same, fun x => ?_, by split <;> omega, by rw [upd_ne nre.symm, upd_same, pref_succ f y (j + 1), List.map_append]; rfl, by rw [upd_ne noe, upd_ne nro]; exact to, (tg.upd hra).upd hea⟩
          rw [Bool.or_eq_true, decide_eq_true_eq, tS x]
          constructor
          · rintro ((h | ⟨k, k1, k2, e1⟩) | h)
            · exact .inl h
            · exact .inr ⟨k, k1, by omega, e1⟩
            · exact .inr ⟨j + 1, by omega, by omega, by omega⟩
          · rintro (h | ⟨k, k1, k2, e1⟩)
            · exact .inl (.inl h)
            · by_cases ck : k = j + 1
              · subst ck; exact .inr (by rw [e1])
              · exact .inl (.inr ⟨k, k1, by omega, e1⟩)
    · rintro σ H1 ⟨v3, v4, v5, S, c, as, rfl, s3, h1, h2, hS, hc, ho, hg, hoa, hnd, hfr⟩
      rw [List.length_map, List.take_length, ringsIn_all zs1 zlt zall] at hg
      exact ⟨_, rfl, q o as H1 s3 no hfr hoa hnd ho hg⟩
end
/-! ### texts of rings -/
def txN (n : Nat) : Str := Str.ofString (toString (n : Int))
def txR (r : List Nat) : Str := ("(" : Str) ++ Txt.join "," (r.map txN) ++ (")" : Str)
def txJ (rs : List (List Nat)) : Str := Txt.join "" (rs.map txR)
def txA (rs : List (List Nat)) : Str := if (txJ rs).length = 0 then ("()" : Str) else txJ rs
theorem txN_len {n : Nat} (h : n < 1000) : (txN n).length ≤ 4 := by
  unfold txN
  rw [PySem.ofString_length]
  exact int_text_length_le10 (k := 3) (by decide) (by rw [Int.natAbs_natCast]; exact h)
theorem sum_le_mul {α : Type} {l : List α} {f : α → Nat} {c : Nat} (h : ∀ x ∈ l, f x ≤ c) : (l.map f).sum ≤ l.length * c := by
  induction l with
  | nil => simp
  | cons x l ih =>
    rw [List.map_cons, List.sum_cons, List.length_cons, Nat.succ_mul]
    have := h x List.mem_cons_self
    have := ih fun y hy => h y (List.mem_cons_of_mem _ hy)
    omega
theorem join_le (sep : Str) (ys : List Str) : (Txt.join sep ys).length ≤ (ys.map (·.length)).sum + ys.length * sep.length := by
  show (Builtin.Str.glued sep ys).length ≤ _
  rw [StrLaws.glued_eq_join]
  exact StrLaws.join_length_le sep ys
theorem comma_len : (("," : Str)).length = 1 := by decide +kernel
theorem open_len : (("(" : Str)).length = 1 := by decide +kernel
theorem close_len : ((")" : Str)).length = 1 := by decide +kernel
theorem none_len : (("" : Str)).length = 0 := by decide +kernel
theorem join_ring {r : List Nat} (h : ∀ x ∈ r, x < 1000) : ((r.map txN).map (·.length)).sum ≤ r.length * 4 := by
  rw [List.map_map]
  exact sum_le_mul fun x hx => txN_len (h x hx)
theorem app_len (x y : Str) : (x ++ y).length = x.length + y.length := by
  show (x.cps ++ y.cps).size = _
  rw [Array.size_append]
  rfl
theorem txR_len {r : List Nat} (h : ∀ x ∈ r, x < 1000) : (txR r).length ≤ r.length * 5 + 2 := by
  unfold txR
  have a := join_le "," (r.map txN)
  have b := join_ring h
  rw [List.length_map, comma_len] at a
  rw [app_len, app_len, open_len, close_len]
  omega
theorem txJ_sum : ∀ {rs : List (List Nat)}, (∀ x ∈ rs.flatten, x < 1000) → ((rs.map txR).map (·.length)).sum ≤ rs.flatten.length * 5 + rs.length * 2
  | [], _ => by simp
  | r :: rs, h => by
    have a := txR_len (r := r) fun x hx => h x (by rw [List.flatten_cons]; exact List.mem_append_left _ hx)
    have b := txJ_sum (rs := rs) fun x hx => h x (by rw [List.flatten_cons]; exact List.mem_append_right _ hx)
    rw [List.map_cons, List.map_cons, List.sum_cons, List.flatten_cons, List.length_append, List.length_cons]
    omega
theorem mem_len {r : List Nat} : ∀ {rs : List (List Nat)}, r ∈ rs → r.length ≤ rs.flatten.length
  | [], h => by cases h
  | q :: rs, h => by
    rw [List.flatten_cons, List.length_append]
    rcases List.mem_cons.mp h with e | e
    · rw [e]; omega
    · have := mem_len e
      omega
theorem txA_len {rs : List (List Nat)} (hx : ∀ x ∈ rs.flatten, x < 1000) (hl : rs.flatten.length ≤ 1000) (hn : rs.length ≤ 1000) : (txA rs).length ≤ 10000 := by
  have b1 := txJ_sum hx
  have a := join_le "" (rs.map txR)
  rw [List.length_map, none_len] at a
  have b2 : (txJ rs).length ≤ 10000 := by
    show (Txt.join "" (rs.map txR)).length ≤ _
    omega
  unfold txA
  by_cases c : (txJ rs).length = 0
  · rw [if_pos c]
    decide +kernel
  · rw [if_neg c]
    exact b2
def rJoin (K : PySem.W.Frag) : V → List V → Hp → VK → Prop := fun x xs H Q => ∃ (a : Str) (p : Addr) (ys : List Str), x = .str a ∧ xs = [.ref p] ∧ (SqL K H p (ys.map V.str) ∨ SqT K H p (ys.map V.str)) ∧ (ys.map (·.length)).sum + ys.length * a.length ≤ 16777216 ∧ Q (.str (Txt.join a ys)) H
def rAddS : R2 := fun x y H Q => ∃ i j, x = .str i ∧ y = .str j ∧ i.length + j.length ≤ sizeLine ∧ Q (.str (i ++ j)) H
def rStrI : List V → Hp → VK → Prop := fun xs H Q => ∃ i, xs = [.int i] ∧ i.natAbs.log2 < 1920 ∧ Q (.str (toString i)) H
section
variable {X : Cx} {o e : Expr} {to te : TE}
theorem pe_joinS {apos pos : Pos} (ho : PE X o to) (he : PE X e te) (hs : starEach [e] X.env = [(false, eval e X.env)] := by rfl) (hbase : attributeBase o "join" X.env (eval o X.env) = eval o X.env := by rfl) (hline : (apos.endLine == pos.line) = true := by rfl) :
    PE X (.Call (.Attribute o "join" apos) [e] [] pos) (tM1 (rJoin X.K) to te) := pe_join ho he hs hbase hline
theorem op_addS : OpR X (binaryOp .Add) rAddS := op_add_str
theorem call_strI : CallR X (.type "str") rStrI := call_str_int
end
section
variable {P : Program} {w : World} {K : PySem.W.Frag} {mg : Str → Option Value} {base : Heap} {C : Addr}
abbrev s_rings_text : Stmt := top 12
theorem sc_rings_text : FnScope ["rings", "ring", "place"] ["rings"] (defScope s_rings_text) := ⟨rfl, rfl, rfl, by decide +kernel, rfl, by decide +kernel, by decide +kernel⟩

def spText (K : PySem.W.Frag) : Sp := fun vs H Q _ => ∃ (a : Addr) (as : List Addr) (rs : List (List Nat)), vs = [.ref a] ∧ SqL K H a (as.map V.ref) ∧ Rg H as rs ∧ (∀ x ∈ rs.flatten, x < 1000) ∧ rs.flatten.length ≤ 1000 ∧ rs.length ≤ 1000 ∧
  ∀ H' : Hp, Same H H' → Q (.str (txA rs)) H'
theorem ok_rings_text {f : Addr} {fd : FuncData} (F : Fun K "rings_text" "rings_text" s_rings_text f fd) (T : Blt mg) (str : mg "str" = none) : FnOk P w K mg base CX0 1 f fd ["rings"] (spText K) := by
  refine F.ok sc_rings_text (fun vs H Q E h => ?_) (fun cdv A outer s H vs Q E hr h => ?_)
  · obtain ⟨a, as, rs, rfl, _⟩ := h; rfl
  · obtain ⟨a, as, rs, rfl, hS, hg, hx, hl, hn, q⟩ := h
    refine ⟨_, (pss_one (ps_ret (pe_orT (pe_joinS pe_str (pe_lc (own := [("ring", 1)]) (tt := tYes) (te := tOp rAddS (tOp rAddS (tC (.str "(")) (tM1 (rJoin K) (tC (.str ",")) (tLc (iList K (tVar 1)) (gName 2) tYes (tCB rStrI (tCons (tVar 2) tNil)) [2]))) (tC (.str ")"))) rfl sc_rings_text.nd (pi_list (pv 0)) (blkOk_by (N := ["rings", "ring", "place"]) (sc := defScope s_rings_text) (by decide +kernel)) (fun _ _ _ _ _ => (pg_name (i := 1) sc_rings_text.nd rfl (.inl rfl))) (fun _ _ _ _ _ => pts_nil) (fun _ _ _ _ _ => by exact (pe_op op_addS (pe_op op_addS pe_str (pe_joinS pe_str (pe_lc (own := [("place", 2)]) (tt := tYes) rfl sc_rings_text.nd (pi_list (pv 1)) (by exact (blkOk_by (N := ["rings", "ring", "place"]) (by rfl))) (fun _ _ _ _ _ => (pg_name (i := 2) sc_rings_text.nd rfl (.inl rfl))) (fun _ _ _ _ _ => pts_nil) (fun _ _ _ _ _ => by exact (pe_callTy call_strI (by rfl) str (by decide +kernel) (pa_cons (pv 2) pa_nil)))))) pe_str)))) (pe_one pe_str)))), ?_⟩
    refine ⟨⟨_, rfl⟩, _, rfl, a, rfl, ⟨_, hS⟩, fun D nD => ?_⟩
    refine lc_list (K := K) (a := a) (xs := as.map V.ref) (fun i H1 => Same H H1 ∧ H1 D = some (.lst (((rs.take i).map txR).map V.str))) ⟨same_upd nD, upd_same⟩ (fun i H1 _ ⟨s1, _⟩ => s1.seq hS) ?_ ?_
    · rintro i y H1 hi ⟨s1, hD⟩
      obtain ⟨b, hb, rfl⟩ : ∃ b, as[i]? = some b ∧ y = V.ref b := by
        rw [List.getElem?_map] at hi
        cases e : as[i]? with
        | none => rw [e] at hi; cases hi
        | some b => rw [e] at hi; exact ⟨b, rfl, (Option.some.inj hi).symm⟩
      have hil : i < rs.length := by rw [← hg.len]; exact (List.getElem?_eq_some_iff.mp hb).1
      obtain ⟨r, hr'⟩ : ∃ r, rs[i]? = some r := ⟨_, List.getElem?_eq_getElem hil⟩
      have hbr := hg.at_ i b r hb hr'
      have hrx : ∀ x ∈ r, x < 1000 := fun x hx' => hx x (List.mem_flatten.mpr ⟨r, List.mem_of_getElem? hr', hx'⟩)
      have hrl : r.length ≤ 1000 := by
        have := mem_len (List.mem_of_getElem? hr')
        omega
      refine ⟨rfl, yesT ?_⟩
      refine ⟨⟨_, rfl⟩, _, rfl, b, rfl, ⟨_, SqL.of (s1 _ _ hbr)⟩, fun D2 nD2 => ?_⟩
      refine lc_list (K := K) (a := b) (xs := r.map nv) (fun j H2 => Same H1 H2 ∧ H2 D2 = some (.lst (((r.take j).map txN).map V.str))) ⟨same_upd nD2, upd_same⟩ (fun j H2 _ ⟨s2, _⟩ => SqL.of (s2 _ _ (s1 _ _ hbr))) ?_ ?_
      · rintro j y H2 hj ⟨s2, hD2⟩
        obtain ⟨x, hx', rfl⟩ := of_nv_get hj
        refine ⟨rfl, yesT ?_⟩
        refine ⟨_, rfl, (x : Int), rfl, ?_, _, hD2, small64 (by rw [List.length_map, List.length_map, List.length_take]; omega), mutS s2 nD2, ?_⟩
        · have := hrx x (List.mem_of_getElem? hx')
          rw [Int.natAbs_natCast]
          exact Nat.lt_of_le_of_lt (Nat.log2_le_self x) (by omega)
        · rw [upd_same, List.take_add_one, hx', List.map_append, List.map_append]
          rfl
      · rintro H2 ⟨s2, hD2⟩
        rw [List.length_map, List.take_length] at hD2
        have b1 := join_ring hrx
        have b2 := txR_len hrx
        have b3 : (Txt.join "," (r.map txN)).length ≤ r.length * 4 + r.length := by
          have a := join_le "," (r.map txN)
          rw [List.length_map, comma_len] at a
          omega
        refine ⟨",", D2, r.map txN, rfl, rfl, .inl (SqL.of hD2), by rw [List.length_map, comma_len]; omega, "(", _, rfl, rfl, by rw [open_len, sizeLine_eq]; omega, _, ")", rfl, rfl, by rw [app_len, open_len, close_len, sizeLine_eq]; omega,
          _, s2 _ _ hD, small64 (by rw [List.length_map, List.length_map, List.length_take]; omega), mutS (s1.trans s2) nD, ?_⟩
        rw [upd_same, List.take_add_one, hr', List.map_append, List.map_append]
        rfl
    · rintro H1 ⟨s1, hD⟩
      rw [List.length_map, hg.len, List.take_length] at hD
      have b1 := txJ_sum hx
      have b2 : (txJ rs).length ≤ 10000 := by
        have a := join_le "" (rs.map txR)
        rw [List.length_map, none_len] at a
        show (Txt.join "" (rs.map txR)).length ≤ _
        omega
      refine ⟨"", D, rs.map txR, rfl, rfl, .inl (SqL.of hD), by rw [List.length_map, none_len]; omega, ?_⟩
      refine ⟨((txJ rs).length : Int) != 0, ⟨by rw [sizeLine_eq]; show (txJ rs).length ≤ _; omega, rfl⟩, ?_⟩
      by_cases c : (txJ rs).length = 0
      · have e : (((txJ rs).length : Int) != 0) = false := by rw [c]; rfl
        rw [e]
        refine iteF ?_
        have := q H1 s1
        unfold txA at this
        rw [if_pos c] at this
        exact this
      · have e : (((txJ rs).length : Int) != 0) = true := by rw [bne_iff_ne]; omega
        rw [e]
        refine iteT ?_
        have := q H1 s1
        unfold txA at this
        rw [if_neg c] at this
        exact this
end
structure BltC (K : PySem.W.Frag) (mg : Str → Option Value) (C : Addr) : Prop extends Blt mg where
  cl : Cls K C
/-! ### lists of ints and of bools compared -/
theorem dpI {K : PySem.W.Frag} {H : Hp} {a : Addr} {l : List Nat} (h : SqL K H a (l.map nv)) : Dp K H (.ref a) (.list (l.map fun (x : Nat) => PyData.int x)) := by
  refine .lst h ?_
  clear h
  induction l with
  | nil => exact .nil
  | cons x l ih => exact .cons (.int x) ih
theorem canI (l : List Nat) : PyData.canLayAll0 (l.map fun (x : Nat) => PyData.int x) = true := by
  induction l with
  | nil => rfl
  | cons x l ih =>
    rw [List.map_cons, PyData.canLayAll0, ih]
    rfl
theorem depI (l : List Nat) : PyData.depthAll (l.map fun (x : Nat) => PyData.int x) = 0 := by
  induction l with
  | nil => rfl
  | cons x l ih =>
    rw [List.map_cons, PyData.depthAll, ih]
    rfl
theorem shI (l : List Nat) : SeqAt.shaped (.list (l.map fun (x : Nat) => PyData.int x)) = true := by
  unfold SeqAt.shaped
  rw [PyData.canLay0, canI, PyData.depth, depI]
  rfl
theorem eqI (l m : List Nat) : PyData.eqv (.list (l.map fun (x : Nat) => PyData.int x)) (.list (m.map fun (x : Nat) => PyData.int x)) = decide (l = m) := by
  rw [PyData.eqv]
  induction l generalizing m with
  | nil =>
    cases m with
    | nil => rfl
    | cons y m => rfl
  | cons x l ih =>
    cases m with
    | nil => rfl
    | cons y m =>
      rw [List.map_cons, List.map_cons, PyData.eqvAll, ih m, PyData.eqv]
      by_cases c : x = y
      · subst c
        rw [beq_self_eq_true, Bool.true_and]
        simp
      · have : ((x : Int) == (y : Int)) = false := by rw [beq_eq_false_iff_ne]; omega
        rw [this, Bool.false_and]
        simp [c]
/-- the wire's class as the law asks of it -/
structure WTop (K : PySem.W.Frag) (mg : Str → Option Value) (C : Addr) : Prop extends BltC K mg C where
  g_Wire : mg "Wire" = some (.ref C)
  cla : PySem.W.findIn K (.ref C) "__class__" = some (some (.builtin "object.__class__"))
  hget : PySem.W.specialIn K (.builtin "object.__class__") "__get__" = some (some (.builtin "getset_descriptor.__get__"))
  htk : PySem.W.takesIn K (.builtin "object.__class__") = some true
  hmro : PySem.W.mroIn K C (.type "object") = some true
theorem kit_self {K : PySem.W.Frag} {v : Value} : PySem.W.kitOne K v v = some true := by
  unfold PySem.W.kitOne
  rw [if_pos (beq_self_eq_true _)]
/-! ### texts as lists of signs -/
def cs (s : Str) : List Nat := s.cps.toList
theorem cs_inj {a b : Str} (h : cs a = cs b) : a = b := Str.ext' (Array.toList_inj.mp h)
theorem cs_app (a b : Str) : cs (a ++ b) = cs a ++ cs b := by
  unfold cs
  rw [Str.cps_append, Array.toList_append]
theorem cs_len (a : Str) : (cs a).length = a.length := rfl
theorem cs_one (c : Nat) : cs ⟨#[c]⟩ = [c] := rfl
theorem cs_empty : cs Str.empty = [] := rfl
/-- parts with a sign between them -/
def jn (sep : List Nat) : List (List Nat) → List Nat
  | [] => []
  | [p] => p
  | p :: q :: r => p ++ sep ++ jn sep (q :: r)
theorem cs_join (sep : Str) : ∀ ws : List Str, cs (Str.join sep ws) = jn (cs sep) (ws.map cs)
  | [] => rfl
  | [p] => rfl
  | p :: q :: r => by
    show cs (p ++ sep ++ Str.join sep (q :: r)) = cs p ++ cs sep ++ jn (cs sep) ((q :: r).map cs)
    rw [cs_app, cs_app, cs_join sep (q :: r)]
theorem cs_tjoin (sep : Str) (ws : List Str) : cs (Txt.join sep ws) = jn (cs sep) (ws.map cs) := by
  show cs (Builtin.Str.glued sep ws) = _
  rw [StrLaws.glued_eq_join]
  exact cs_join sep ws
/-- where the sign c comes first, the parts ahead of it are one -/
theorem cut_first {c : Nat} {p q a b : List Nat} (hp : c ∉ p) (hq : c ∉ q) (h : p ++ c :: a = q ++ c :: b) : p = q ∧ a = b := by
  induction p generalizing q with
  | nil =>
    cases q with
    | nil => exact ⟨rfl, (List.cons.inj h).2⟩
    | cons y q => exact absurd ((List.cons.inj h).1 ▸ List.mem_cons_self) hq
  | cons x p ih =>
    cases q with
    | nil => exact absurd ((List.cons.inj h).1 ▸ List.mem_cons_self) hp
    | cons y q =>
      obtain ⟨e1, e2⟩ := List.cons.inj h
      obtain ⟨e3, e4⟩ := ih (fun m => hp (List.mem_cons_of_mem _ m)) (fun m => hq (List.mem_cons_of_mem _ m)) e2
      exact ⟨by rw [e1, e3], e4⟩
theorem cut_none {c : Nat} {p q b : List Nat} (hp : c ∉ p) (h : p = q ++ c :: b) : False := hp (h ▸ List.mem_append_right _ List.mem_cons_self)
/-- parts without the separator's first sign are told by their join -/
theorem jn_inj {c : Nat} {sep : List Nat} : ∀ {ps qs : List (List Nat)}, ps ≠ [] → qs ≠ [] → (∀ p ∈ ps, c ∉ p) → (∀ q ∈ qs, c ∉ q) → jn (c :: sep) ps = jn (c :: sep) qs → ps = qs
  | [], _, h, _, _, _, _ => absurd rfl h
  | _ :: _, [], _, h, _, _, _ => absurd rfl h
  | [p], [q], _, _, _, _, h => by rw [show p = q from h]
  | [p], q :: q2 :: qs, _, _, hp, _, h => (cut_none (hp p List.mem_cons_self) (show p = q ++ c :: (sep ++ jn (c :: sep) (q2 :: qs)) by
      have e : p = q ++ (c :: sep) ++ jn (c :: sep) (q2 :: qs) := h
      rw [e, List.append_assoc]; rfl)).elim
  | p :: p2 :: ps, [q], _, _, _, hq, h => (cut_none (hq q List.mem_cons_self) (show q = p ++ c :: (sep ++ jn (c :: sep) (p2 :: ps)) by
      have e : p ++ (c :: sep) ++ jn (c :: sep) (p2 :: ps) = q := h
      rw [← e, List.append_assoc]; rfl)).elim
  | p :: p2 :: ps, q :: q2 :: qs, _, _, hp, hq, h => by
    have e : p ++ (c :: sep) ++ jn (c :: sep) (p2 :: ps) = q ++ (c :: sep) ++ jn (c :: sep) (q2 :: qs) := h
    rw [List.append_assoc, List.append_assoc, List.cons_append, List.cons_append] at e
    obtain ⟨e1, e2⟩ := cut_first (hp p List.mem_cons_self) (hq q List.mem_cons_self) e
    have e3 := jn_inj (ps := p2 :: ps) (qs := q2 :: qs) (by simp) (by simp) (fun x hx => hp x (List.mem_cons_of_mem _ hx)) (fun x hx => hq x (List.mem_cons_of_mem _ hx)) (List.append_cancel_left e2)
    rw [e1, e3]
theorem map_cs_inj : ∀ {a b : List Str}, a.map cs = b.map cs → a = b
  | [], [], _ => rfl
  | [], _ :: _, h => by cases h
  | _ :: _, [], h => by cases h
  | x :: a, y :: b, h => by
    obtain ⟨e1, e2⟩ := List.cons.inj h
    rw [cs_inj e1, map_cs_inj e2]
theorem split_ne (x y : Str) : Txt.split x y ≠ [] := by
  unfold Txt.split
  split
  · simp
  · split
    · simp
    · rw [StrLaws.partsBetween_eq]
      obtain ⟨p, r, e⟩ := StrLaws.partsFrom_ne x y.length 0 (Builtin.Str.occurrences x y 0 x.length (x.length + 1))
      rw [e]
      simp
/-- splitting at one sign undoes joining by it -/
theorem split_one {c : Nat} {ws : List Str} (hn : ws ≠ []) (h : ∀ w ∈ ws, c ∉ cs w) {x : Str} (hx : cs x = jn [c] (ws.map cs)) : Txt.split x ⟨#[c]⟩ = ws := by
  have j := StrLaws.join_split x ⟨#[c]⟩
  have f := StrLaws.split_free x c
  refine map_cs_inj (jn_inj (c := c) (sep := []) (by simp [split_ne]) (by simp [hn]) ?_ ?_ ?_)
  · intro p hp
    obtain ⟨w, hw, rfl⟩ := List.mem_map.mp hp
    exact f w hw
  · intro p hp
    obtain ⟨w, hw, rfl⟩ := List.mem_map.mp hp
    exact h w hw
  · rw [← hx]
    have := congrArg cs j
    rw [cs_join] at this
    exact this
/-! ### splitting at two signs of which the first one always stands ahead of the second -/
def Fol (a b : Nat) (l : List Nat) : Prop := ∀ k, l[k]? = some a → l[k + 1]? = some b
open Builtin Builtin.Str in
theorem at_two {x : Str} {a b k : Nat} (h1 : (cs x)[k]? = some a) (h2 : (cs x)[k + 1]? = some b) : StrLaws.At x ⟨#[a, b]⟩ x.length k := by
  have l2 := (List.getElem?_eq_some_iff.mp h2).1
  rw [cs_len] at l2
  refine ⟨by show k + 2 ≤ _; omega, ?_⟩
  rw [StrLaws.subAt_eq]
  have e : ((cs x).drop k).take 2 = [a, b] := by
    apply List.ext_getElem?
    intro i
    match i with
    | 0 => rw [List.getElem?_take_of_lt (by omega), List.getElem?_drop]; simpa using h1
    | 1 => rw [List.getElem?_take_of_lt (by omega), List.getElem?_drop]; simpa using h2
    | i + 2 =>
      rw [List.getElem?_eq_none (by rw [List.length_take]; omega)]
      rfl
  exact beq_iff_eq.mpr e
open Builtin Builtin.Str in
theorem parts_two {x : Str} {a b : Nat} (F : Fol a b (cs x)) : ∀ (cuts : List Nat) (i f : Nat), StrLaws.ChainG x ⟨#[a, b]⟩ x.length i cuts f → (∀ k, f ≤ k → ¬ StrLaws.At x ⟨#[a, b]⟩ x.length k) → ∀ p ∈ StrLaws.partsFrom x (⟨#[a, b]⟩ : Str).length i cuts, a ∉ cs p := by
  have gap : ∀ i j, (∀ k, i ≤ k → k < j → ¬ StrLaws.At x ⟨#[a, b]⟩ x.length k) → a ∉ cs (strSub x i j) := by
    intro i j hn hm
    have e : cs (strSub x i j) = ((cs x).drop i).take (j - i) := StrLaws.strSub_toList x i j
    rw [e] at hm
    obtain ⟨k, hk⟩ := List.getElem?_of_mem hm
    have lk : k < j - i := by
      have := (List.getElem?_eq_some_iff.mp hk).1
      rw [List.length_take] at this
      omega
    rw [List.getElem?_take_of_lt lk, List.getElem?_drop] at hk
    exact hn (i + k) (by omega) (by omega) (at_two hk (F _ hk))
  intro cuts
  induction cuts with
  | nil =>
    intro i f h hn p hp
    have e : f = i := h
    subst e
    rw [List.mem_singleton.mp hp]
    exact gap f x.length fun k h1 _ => hn k h1
  | cons d r ih =>
    intro i f h hn p hp
    rcases List.mem_cons.mp hp with rfl | hp'
    · exact gap i d h.2.2.1
    · exact ih _ f h.2.2.2 hn p hp'
open Builtin Builtin.Str in
theorem split_two_free {x : Str} {a b : Nat} (hb : a < 256 ∧ b < 256) (F : Fol a b (cs x)) : ∀ p ∈ Txt.split x ⟨#[a, b]⟩, a ∉ cs p := by
  have none_ : (∀ k, ¬ StrLaws.At x ⟨#[a, b]⟩ x.length k) → a ∉ cs x := fun hn hm => by
    obtain ⟨k, hk⟩ := List.getElem?_of_mem hm
    exact hn k (at_two hk (F k hk))
  obtain ⟨f, hc, hn⟩ := StrLaws.occ_tight x ⟨#[a, b]⟩ (by show 1 ≤ 2; omega)
  intro p hp
  unfold Txt.split at hp
  split at hp
  · rename_i h
    rw [List.mem_singleton.mp hp]
    refine none_ fun k hA => ?_
    have l := hA.1
    rcases Bool.or_eq_true_iff.mp h with h | h
    · have := of_decide_eq_true h
      omega
    · have h := of_decide_eq_true h
      have k1 : Str.strKind ⟨#[a, b]⟩ = 1 := by
        unfold Builtin.Str.strKind
        simp [hb.1, hb.2]
      rw [k1] at h
      unfold Builtin.Str.strKind at h
      split at h
      · omega
      · split at h <;> omega
  · split at hp
    · rename_i h
      rw [List.mem_singleton.mp hp]
      have e := List.isEmpty_iff.mp h
      rw [e] at hc
      have e2 : f = 0 := hc
      exact none_ fun k => hn k (by omega)
    · rw [StrLaws.partsBetween_eq] at hp
      exact parts_two F _ 0 f hc hn p hp
theorem split_two {a b : Nat} (hb : a < 256 ∧ b < 256) {ws : List Str} (hn : ws ≠ []) (h : ∀ w ∈ ws, a ∉ cs w) {x : Str} (hx : cs x = jn [a, b] (ws.map cs)) (F : Fol a b (cs x)) : Txt.split x ⟨#[a, b]⟩ = ws := by
  have j := StrLaws.join_split x ⟨#[a, b]⟩
  have f := split_two_free hb F
  refine map_cs_inj (jn_inj (c := a) (sep := [b]) (by simp [split_ne]) (by simp [hn]) ?_ ?_ ?_)
  · intro p hp
    obtain ⟨w, hw, rfl⟩ := List.mem_map.mp hp
    exact f w hw
  · intro p hp
    obtain ⟨w, hw, rfl⟩ := List.mem_map.mp hp
    exact h w hw
  · rw [← hx]
    have := congrArg cs j
    rw [cs_join] at this
    exact this
theorem fol_jn {a b : Nat} (hab : a ≠ b) : ∀ {ps : List (List Nat)}, (∀ p ∈ ps, a ∉ p) → Fol a b (jn [a, b] ps)
  | [], _, k, h => by cases h
  | [p], hp, k, h => absurd (List.mem_of_getElem? h) (hp p List.mem_cons_self)
  | p :: q :: r, hp, k, h => by
    have ih := fol_jn hab (ps := q :: r) fun x hx => hp x (List.mem_cons_of_mem _ hx)
    have e : jn [a, b] (p :: q :: r) = p ++ ([a, b] ++ jn [a, b] (q :: r)) := by
      show p ++ [a, b] ++ _ = _
      rw [List.append_assoc]
    rw [e] at h ⊢
    by_cases c1 : k < p.length
    · rw [List.getElem?_append_left c1] at h
      exact absurd (List.mem_of_getElem? h) (hp p List.mem_cons_self)
    · rw [List.getElem?_append_right (by omega)] at h
      rw [List.getElem?_append_right (by omega), show k + 1 - p.length = (k - p.length) + 1 by omega]
      match k - p.length, h with
      | 0, _ => rfl
      | 1, h => exact absurd (Option.some.inj h).symm hab
      | j + 2, h => exact ih j h
/-! ### numbers below 1000 as texts -/
def dgs (n : Nat) : List Nat := if n < 10 then [48 + n] else if n < 100 then [48 + n / 10, 48 + n % 10] else [48 + n / 100, 48 + n / 10 % 10, 48 + n % 10]
theorem dgs_all : ∀ n, n < 1000 → cs (txN n) = dgs n := by
  decide +kernel
theorem intText_all {n : Nat} (h : n < 1000) : PySem.intText? (txN n) = some (n : Int) := PySem.W.KIN.num_reads (by omega) (by omega)
/-- is_number, as the program asks it -/
def numS (w : Str) : Bool := Txt.isascii w && (Txt.isdigit w && ((w == ("0" : Str)) || !Txt.startswith w "0"))
theorem numS_all : ∀ n, n < 1000 → numS (txN n) = true := by
  decide +kernel
theorem dig_all : ∀ c, c < 128 → (Unicode.isDigit c = true ↔ 48 ≤ c ∧ c ≤ 57) := by
  decide +kernel
theorem numS_dig {w : Str} (h : numS w = true) : cs w ≠ [] ∧ ∀ c ∈ cs w, 48 ≤ c ∧ c ≤ 57 := by
  unfold numS at h
  obtain ⟨h1, h2⟩ := Bool.and_eq_true_iff.mp h
  obtain ⟨h2, _⟩ := Bool.and_eq_true_iff.mp h2
  obtain ⟨h3, h4⟩ := Bool.and_eq_true_iff.mp h2
  have h3 : 0 < w.length := of_decide_eq_true h3
  refine ⟨fun e => ?_, fun c hc => ?_⟩
  · have := congrArg List.length e
    rw [cs_len] at this
    simp at this
    omega
  · have a := Array.all_eq_true_iff_forall_mem.mp h1 c (Array.mem_toList_iff.mp hc)
    have b := Array.all_eq_true_iff_forall_mem.mp h4 c (Array.mem_toList_iff.mp hc)
    exact (dig_all c (of_decide_eq_true a)).mp b
theorem numS_lead {w : Str} (h : numS w = true) {c : Nat} {r : List Nat} (e : cs w = c :: r) : c ≠ 48 ∨ r = [] := by
  by_cases c0 : c = 48
  · subst c0
    right
    unfold numS at h
    obtain ⟨_, h2⟩ := Bool.and_eq_true_iff.mp h
    obtain ⟨_, h2⟩ := Bool.and_eq_true_iff.mp h2
    rcases Bool.or_eq_true_iff.mp h2 with z | z
    · have ew : w = ("0" : Str) := beq_iff_eq.mp z
      have : cs ("0" : Str) = [48] := by decide +kernel
      rw [ew, this] at e
      exact (List.cons.inj e).2.symm
    · exfalso
      have : Txt.startswith w "0" = true := by
        unfold Txt.startswith
        have l : ("0" : Str).length = 1 := by decide +kernel
        have lw : w.length = r.length + 1 := by rw [← cs_len, e]; rfl
        rw [l, StrLaws.subAt_eq, l]
        have e0 : ("0" : Str).cps.toList = [48] := by decide +kernel
        have ew : w.cps.toList = 48 :: r := e
        rw [ew, e0]
        simp [lw]
      rw [this] at z
      cases z
  · exact .inl c0
/-- digits, at most three, without a leading zero -/
theorem txN_of {l : List Nat} (h0 : l ≠ []) (hd : ∀ c ∈ l, 48 ≤ c ∧ c ≤ 57) (hz : ∀ c r, l = c :: r → c ≠ 48 ∨ r = []) (h3 : l.length ≤ 3) : ∃ n, n < 1000 ∧ l = dgs n := by
  match l, h0, hd, hz, h3 with
  | [a], _, hd, _, _ =>
    have ha := hd a (by simp)
    refine ⟨a - 48, by omega, ?_⟩
    unfold dgs
    rw [if_pos (by omega)]
    congr 1
    omega
  | [a, b], _, hd, hz, _ =>
    have ha := hd a (by simp)
    have hb := hd b (by simp)
    have hn : a ≠ 48 := (hz a [b] rfl).resolve_right (by simp)
    refine ⟨(a - 48) * 10 + (b - 48), by omega, ?_⟩
    unfold dgs
    rw [if_neg (by omega), if_pos (by omega)]
    congr 1
    · omega
    · congr 1
      omega
  | [a, b, c], _, hd, hz, _ =>
    have ha := hd a (by simp)
    have hb := hd b (by simp)
    have hc := hd c (by simp)
    have hn : a ≠ 48 := (hz a [b, c] rfl).resolve_right (by simp)
    refine ⟨(a - 48) * 100 + (b - 48) * 10 + (c - 48), by omega, ?_⟩
    unfold dgs
    rw [if_neg (by omega), if_neg (by omega)]
    congr 1
    · omega
    · congr 1
      · omega
      · congr 1
        omega
def isN (w : Str) : Prop := ∃ n, n < 1000 ∧ w = txN n
theorem isN_of {w : Str} (h0 : cs w ≠ []) (hd : ∀ c ∈ cs w, 48 ≤ c ∧ c ≤ 57) (hz : ∀ c r, cs w = c :: r → c ≠ 48 ∨ r = []) (h3 : w.length ≤ 3) : isN w := by
  obtain ⟨n, hn, e⟩ := txN_of h0 hd hz h3
  exact ⟨n, hn, cs_inj (by rw [e, dgs_all n hn])⟩
theorem numS_isN {w : Str} (h : numS w = true) (h3 : w.length ≤ 3) : isN w := isN_of (numS_dig h).1 (numS_dig h).2 (fun c r e => numS_lead h e) h3
theorem dgs_len (n : Nat) : (dgs n).length ≤ 3 ∧ (dgs n).length = if n < 10 then 1 else if n < 100 then 2 else 3 := by
  unfold dgs
  split
  · simp
  · split <;> simp
theorem dgs_dig {n : Nat} (h : n < 1000) : ∀ c ∈ dgs n, 48 ≤ c ∧ c ≤ 57 := by
  intro c hc
  unfold dgs at hc
  split at hc
  · simp at hc; omega
  · split at hc
    · simp at hc; omega
    · simp at hc; omega
theorem dgs_ne (n : Nat) : dgs n ≠ [] := by
  unfold dgs
  split
  · simp
  · split <;> simp
theorem dgs_inj {n m : Nat} (hn : n < 1000) (hm : m < 1000) (e : dgs n = dgs m) : n = m := by
  have l := congrArg List.length e
  rw [(dgs_len n).2, (dgs_len m).2] at l
  unfold dgs at e
  split at e <;> split at e <;> (try split at e) <;> (try split at e) <;> simp_all <;> omega
theorem txN_inj {n m : Nat} (hn : n < 1000) (hm : m < 1000) (e : txN n = txN m) : n = m := dgs_inj hn hm (by rw [← dgs_all n hn, ← dgs_all m hm, e])
theorem txN_length {n : Nat} (h : n < 1000) : (txN n).length = if n < 10 then 1 else if n < 100 then 2 else 3 := by
  rw [← cs_len, dgs_all n h]
  exact (dgs_len n).2
/-! ### the text of rings, taken apart -/
theorem cs_comma : cs ("," : Str) = [44] := by decide +kernel
theorem cs_open : cs ("(" : Str) = [40] := by decide +kernel
theorem cs_close : cs (")" : Str) = [41] := by decide +kernel
theorem cs_both : cs ("()" : Str) = [40, 41] := by decide +kernel
theorem cs_cut : cs (")(" : Str) = [41, 40] := by decide +kernel
theorem cs_blank : cs (" " : Str) = [32] := by decide +kernel
theorem s_comma : ("," : Str) = ⟨#[44]⟩ := cs_inj cs_comma
theorem s_cut : (")(" : Str) = ⟨#[41, 40]⟩ := cs_inj cs_cut
theorem s_blank : (" " : Str) = ⟨#[32]⟩ := cs_inj cs_blank
def bod (r : List Nat) : List Nat := jn [44] (r.map fun x => cs (txN x))
theorem cs_txR (r : List Nat) : cs (txR r) = 40 :: (bod r ++ [41]) := by
  unfold txR bod
  rw [cs_app, cs_app, cs_open, cs_close, cs_tjoin, cs_comma, List.map_map]
  rfl
theorem jn_nil : ∀ ps : List (List Nat), jn [] ps = ps.flatten
  | [] => rfl
  | [p] => by simp [jn]
  | p :: q :: r => by
    show p ++ [] ++ jn [] (q :: r) = _
    rw [jn_nil (q :: r), List.append_nil]
    rfl
theorem cs_txJ (rs : List (List Nat)) : cs (txJ rs) = (rs.map fun r => 40 :: (bod r ++ [41])).flatten := by
  unfold txJ
  rw [cs_tjoin, show cs ("" : Str) = [] by decide +kernel, jn_nil, List.map_map]
  congr 1
  exact List.map_congr_left fun r _ => cs_txR r
theorem bod_cut : ∀ {rs : List (List Nat)}, rs ≠ [] → (rs.map fun r => 40 :: (bod r ++ [41])).flatten = 40 :: (jn [41, 40] (rs.map bod) ++ [41])
  | [], h => absurd rfl h
  | [r], _ => by simp [jn]
  | r :: q :: rs, _ => by
    have ih := bod_cut (rs := q :: rs) (by simp)
    rw [List.map_cons, List.flatten_cons, ih]
    show 40 :: (bod r ++ [41]) ++ _ = 40 :: (bod r ++ [41, 40] ++ jn [41, 40] ((q :: rs).map bod) ++ [41])
    simp
theorem cs_txA {rs : List (List Nat)} (h : rs ≠ []) : cs (txA rs) = 40 :: (jn [41, 40] (rs.map bod) ++ [41]) := by
  have e := cs_txJ rs
  rw [bod_cut h] at e
  have n : (txJ rs).length ≠ 0 := by
    rw [← cs_len, e]
    simp
  unfold txA
  rw [if_neg n]
  exact e
theorem txA_nil : txA [] = ("()" : Str) := by decide +kernel
theorem jn_mem {sep : List Nat} {c : Nat} : ∀ {ps : List (List Nat)}, c ∈ jn sep ps → c ∈ sep ∨ ∃ p ∈ ps, c ∈ p
  | [], h => by cases h
  | [p], h => .inr ⟨p, List.mem_cons_self, h⟩
  | p :: q :: r, h => by
    have h : c ∈ p ++ sep ++ jn sep (q :: r) := h
    rcases List.mem_append.mp h with h | h
    · rcases List.mem_append.mp h with h | h
      · exact .inr ⟨p, List.mem_cons_self, h⟩
      · exact .inl h
    · rcases jn_mem h with h | ⟨x, hx, h⟩
      · exact .inl h
      · exact .inr ⟨x, List.mem_cons_of_mem _ hx, h⟩
theorem bod_sign {r : List Nat} (h : ∀ x ∈ r, x < 1000) {c : Nat} (hc : c ∈ bod r) : c = 44 ∨ 48 ≤ c ∧ c ≤ 57 := by
  rcases jn_mem hc with h1 | ⟨p, hp, h1⟩
  · exact .inl (List.mem_singleton.mp h1)
  · obtain ⟨x, hx, rfl⟩ := List.mem_map.mp hp
    rw [dgs_all x (h x hx)] at h1
    exact .inr (dgs_dig (h x hx) c h1)
/-- the inner signs of a text -/
def inn (r : Str) : Str := cutS r (some 1) (some (-1))
theorem cs_inn {r : Str} {a b : Nat} {l : List Nat} (h : cs r = a :: (l ++ [b])) : cs (inn r) = l := by
  have len : r.length = l.length + 2 := by rw [← cs_len, h]; simp
  have e : cs (inn r) = ((cs r).drop (HT.sIx r.length 0 (some 1))).take (HT.sIx r.length r.length (some (-1)) - HT.sIx r.length 0 (some 1)) := rfl
  have e1 : HT.sIx r.length 0 (some 1) = 1 := by
    have := HT.sIx_nat r.length 0 1
    have e2 : HT.sIx r.length 0 (some 1) = min 1 r.length := this
    rw [e2]
    omega
  have e2 : HT.sIx r.length r.length (some (-1)) = r.length - 1 := by
    unfold HT.sIx
    simp
    omega
  rw [e, e1, e2, h, len]
  simp
/-- the words of a text of rings -/
def wordsOf (r : Str) : List (List Str) := (Txt.split (inn r) ")(").map fun b => Txt.split b ","
theorem words_txA {rs : List (List Nat)} (h : rs ≠ []) (hn : ∀ r ∈ rs, r ≠ []) (hx : ∀ x ∈ rs.flatten, x < 1000) : wordsOf (txA rs) = rs.map fun r => r.map txN := by
  have ci := cs_inn (cs_txA h)
  have hx' : ∀ r ∈ rs, ∀ x ∈ r, x < 1000 := fun r hr x hm => hx x (List.mem_flatten.mpr ⟨r, hr, hm⟩)
  have clean : ∀ p ∈ rs.map bod, 41 ∉ p := by
    intro p hp hm
    obtain ⟨r, hr, rfl⟩ := List.mem_map.mp hp
    rcases bod_sign (hx' r hr) hm with e | ⟨e, _⟩
    · cases e
    · omega
  have ew : (rs.map fun r => (⟨(bod r).toArray⟩ : Str)).map cs = rs.map bod := by
    rw [List.map_map]
    rfl
  have e1 : Txt.split (inn (txA rs)) ")(" = rs.map fun r => (⟨(bod r).toArray⟩ : Str) := by
    rw [s_cut]
    refine split_two (a := 41) (b := 40) (by omega) (by simp [h]) ?_ (by rw [ci, ew]) (by rw [ci]; exact fol_jn (by omega) clean)
    intro w hw
    obtain ⟨r, hr, rfl⟩ := List.mem_map.mp hw
    exact clean _ (List.mem_map.mpr ⟨r, hr, rfl⟩)
  unfold wordsOf
  rw [e1, List.map_map]
  refine List.map_congr_left fun r hr => ?_
  show Txt.split ⟨(bod r).toArray⟩ "," = r.map txN
  rw [s_comma]
  refine split_one (by simp [hn r hr]) (fun w hw hm => ?_) ?_
  · obtain ⟨x, hxr, rfl⟩ := List.mem_map.mp hw
    rw [dgs_all x (hx' r hr x hxr)] at hm
    have := dgs_dig (hx' r hr x hxr) 44 hm
    omega
  · show bod r = _
    unfold bod
    rw [List.map_map]
    rfl
/-! ### a text cut at its first blank -/
open Builtin Builtin.Str in
theorem partition_one {t : Str} {c : Nat} {p q : List Nat} (hp : c ∉ p) (h : cs t = p ++ c :: q) : cs (Txt.partition t ⟨#[c]⟩).1 = p ∧ cs (Txt.partition t ⟨#[c]⟩).2.2 = q := by
  have at_ : ∀ i, StrLaws.At t ⟨#[c]⟩ t.length i ↔ (cs t)[i]? = some c := fun i => StrLaws.subAt_one t c i
  have s1 := StrLaws.partition_sum t ⟨#[c]⟩
  rcases StrLaws.occ_head t ⟨#[c]⟩ 1 (Nat.le_refl _) with ⟨_, hn⟩ | ⟨i, r, e, hA, hk⟩
  · exact absurd ((at_ p.length).mpr (by rw [h, List.getElem?_append_right (Nat.le_refl _), Nat.sub_self]; rfl)) (hn _)
  · unfold Txt.partition at s1 ⊢
    rw [e] at s1 ⊢
    have hi := (at_ i).mp hA
    have le : i = p.length := by
      rcases Nat.lt_trichotomy i p.length with l | l | l
      · rw [h, List.getElem?_append_left l] at hi
        exact absurd (List.mem_of_getElem? hi) hp
      · exact l
      · exact absurd ((at_ p.length).mpr (by rw [h, List.getElem?_append_right (Nat.le_refl _), Nat.sub_self]; rfl)) (hk _ l)
    subst le
    have a1 : cs (strSub t 0 p.length) = p := by
      show (strSub t 0 p.length).cps.toList = p
      rw [StrLaws.strSub_toList]
      show ((cs t).drop 0).take (p.length - 0) = p
      rw [h]
      simp
    refine ⟨a1, ?_⟩
    show (strSub t (p.length + 1) t.length).cps.toList = q
    rw [StrLaws.strSub_toList]
    show ((cs t).drop (p.length + 1)).take (t.length - (p.length + 1)) = q
    have len : t.length = p.length + (q.length + 1) := by rw [← cs_len, h]; simp
    rw [h, len]
    have e2 : (p ++ c :: q).drop (p.length + 1) = q := by
      rw [List.drop_append]
      simp
    rw [e2, List.take_of_length_le (by omega)]
open Builtin Builtin.Str in
theorem partition_free (t : Str) (c : Nat) : (c ∉ cs (Txt.partition t ⟨#[c]⟩).1) ∧ ((Txt.partition t ⟨#[c]⟩).2.2 = Str.empty ∨ t = (Txt.partition t ⟨#[c]⟩).1 ++ ⟨#[c]⟩ ++ (Txt.partition t ⟨#[c]⟩).2.2) := by
  have s1 := StrLaws.partition_sum t ⟨#[c]⟩
  have at_ : ∀ i, StrLaws.At t ⟨#[c]⟩ t.length i ↔ (cs t)[i]? = some c := fun i => StrLaws.subAt_one t c i
  unfold Txt.partition at s1 ⊢
  rcases StrLaws.occ_head t ⟨#[c]⟩ 1 (Nat.le_refl _) with ⟨e, hn⟩ | ⟨i, r, e, hA, hk⟩
  · rw [e]
    refine ⟨fun hm => ?_, .inl rfl⟩
    obtain ⟨k, hk⟩ := List.getElem?_of_mem hm
    exact hn k ((at_ k).mpr hk)
  · rw [e] at s1 ⊢
    refine ⟨fun hm => ?_, .inr s1.symm⟩
    have e1 : cs (strSub t 0 i) = ((cs t).drop 0).take (i - 0) := StrLaws.strSub_toList t 0 i
    have hm : c ∈ cs (strSub t 0 i) := hm
    rw [e1] at hm
    obtain ⟨k, hk2⟩ := List.getElem?_of_mem hm
    have lk : k < i := by
      have := (List.getElem?_eq_some_iff.mp hk2).1
      rw [List.length_take] at this
      omega
    rw [List.getElem?_take_of_lt (by omega), List.getElem?_drop, Nat.zero_add] at hk2
    exact hk k lk ((at_ k).mpr hk2)
/-! ### lists of lists of places compared -/
def dR (r : List Nat) : PyData := .list (r.map fun (x : Nat) => PyData.int x)
theorem dpRs {K : PySem.W.Frag} {H : Hp} {a : Addr} {as : List Addr} {rs : List (List Nat)} (h : SqL K H a (as.map V.ref)) (g : Rg H as rs) : Dp K H (.ref a) (.list (rs.map dR)) := by
  refine .lst h ?_
  clear h
  have key : ∀ (as : List Addr) (rs : List (List Nat)), as.length = rs.length → (∀ (i : Nat) (b : Addr) (r : List Nat), as[i]? = some b → rs[i]? = some r → H b = some (.lst (r.map nv))) → DpAll K H (as.map V.ref) (rs.map dR) := by
    intro as
    induction as with
    | nil =>
      intro rs hl _
      cases rs with
      | nil => exact .nil
      | cons r rs => cases hl
    | cons b as ih =>
      intro rs hl hh
      cases rs with
      | nil => cases hl
      | cons r rs =>
        refine .cons (dpI (SqL.of (hh 0 b r rfl rfl))) (ih rs (by simpa using hl) fun i b' r' h1 h2 => hh (i + 1) b' r' ?_ ?_)
        · rw [List.getElem?_cons_succ]; exact h1
        · rw [List.getElem?_cons_succ]; exact h2
  exact key as rs g.len fun i b r h1 h2 => g.at_ i b r h1 h2
theorem canRs (rs : List (List Nat)) : PyData.canLayAll0 (rs.map dR) = true := by
  induction rs with
  | nil => rfl
  | cons r rs ih =>
    have : PyData.canLay0 (dR r) = true := by
      unfold dR
      rw [PyData.canLay0]
      exact canI r
    rw [List.map_cons, PyData.canLayAll0, this, ih]
    rfl
theorem depRs (rs : List (List Nat)) : PyData.depthAll (rs.map dR) ≤ 1 := by
  induction rs with
  | nil => exact Nat.zero_le _
  | cons r rs ih =>
    have : PyData.depth (dR r) ≤ 1 := by
      unfold dR
      rw [PyData.depth, depI]
      exact Nat.le_refl _
    rw [List.map_cons, PyData.depthAll]
    omega
theorem shRs (rs : List (List Nat)) : SeqAt.shaped (.list (rs.map dR)) = true := by
  unfold SeqAt.shaped
  rw [PyData.canLay0, canRs, PyData.depth, Bool.true_and]
  have := depRs rs
  exact decide_eq_true (by omega)
theorem eqRs (rs : List (List Nat)) : PyData.eqv (.list (rs.map dR)) (.list (rs.map dR)) = true := by
  rw [PyData.eqv]
  induction rs with
  | nil => rfl
  | cons r rs ih =>
    have : PyData.eqv (dR r) (dR r) = true := by
      unfold dR
      rw [eqI]
      exact decide_eq_true rfl
    rw [List.map_cons, PyData.eqvAll, this, ih]
    rfl
theorem eqRs0 (rs : List (List Nat)) : PyData.eqv (.list (rs.map dR)) (.list []) = decide (rs = []) := by
  rw [PyData.eqv]
  cases rs with
  | nil => rfl
  | cons r rs => rfl
section
variable {P : Program} {w : World} {K : PySem.W.Frag} {mg : Str → Option Value} {base : Heap}
/-! ### _law_text -/
theorem txJ_ne {rs : List (List Nat)} (h : rs ≠ []) : (txJ rs).length ≠ 0 := by
  have e := cs_txJ rs
  rw [bod_cut h] at e
  rw [← cs_len, e]
  simp
abbrev s_l_text : Stmt := top 36
theorem sc_l_text : FnScope ["_law_rings_here", "_law_ring", "_law_place"] ["_law_rings_here"] (defScope s_l_text) := ⟨rfl, rfl, rfl, by decide +kernel, rfl, by decide +kernel, by decide +kernel⟩

theorem ok_l_text {f : Addr} {fd : FuncData} (F : Fun K "_law_text" "_law_text" s_l_text f fd) (T : Blt mg) (str : mg "str" = none) : FnOk P w K mg base CX0 1 f fd ["_law_rings_here"] (spText K) := by
  refine F.ok sc_l_text (fun vs H Q E h => ?_) (fun cdv A outer s H vs Q E hr h => ?_)
  · obtain ⟨a, as, rs, rfl, _⟩ := h; rfl
  · obtain ⟨a, as, rs, rfl, hS, hg, hx, hl, hn, q⟩ := h
    have hu2 : (A.deeper (envOfC "_law_text" (defScope s_l_text) s.heap.objs.size f cdv)).units + 64 < cLine := by have := hr.un; omega
    refine ⟨_, (pss_cons (ps_if (pt_cmpR (op_eqD hu2) (pv 0) (pe_lst pa_nil) (nomark _)) (pss_one (ps_ret pe_str)) pss_nil)
    (pss_one (ps_ret (pe_joinS pe_str (pe_lc (own := [("_law_ring", 1)]) (tt := tYes) (te := tOp rAddS (tOp rAddS (tC (.str "(")) (tM1 (rJoin K) (tC (.str ",")) (tLc (iList K (tVar 1)) (gName 2) tYes (tCB rStrI (tCons (tVar 2) tNil)) [2]))) (tC (.str ")"))) rfl sc_l_text.nd (pi_list (pv 0)) (blkOk_by (N := ["_law_rings_here", "_law_ring", "_law_place"]) (sc := defScope s_l_text) (by decide +kernel)) (fun _ _ _ _ _ => (pg_name (i := 1) sc_l_text.nd rfl (.inl rfl))) (fun _ _ _ _ _ => pts_nil) (fun _ _ _ _ _ => by exact (pe_op op_addS (pe_op op_addS pe_str (pe_joinS pe_str (pe_lc (own := [("_law_place", 2)]) (tt := tYes) rfl sc_l_text.nd (pi_list (pv 1)) (by exact (blkOk_by (N := ["_law_rings_here", "_law_ring", "_law_place"]) (by rfl))) (fun _ _ _ _ _ => (pg_name (i := 2) sc_l_text.nd rfl (.inl rfl))) (fun _ _ _ _ _ => pts_nil) (fun _ _ _ _ _ => by exact (pe_callTy call_strI (by rfl) str (by decide +kernel) (pa_cons (pv 2) pa_nil)))))) pe_str))))))), ?_⟩
    refine ⟨_, rfl, Nat.zero_le _, fun pz npz => ?_⟩
    have sz := same_upd (o := .lst []) npz
    have hz : (upd H pz (.lst [])) pz = some (.lst []) := upd_same
    refine ⟨_, _, dpRs (sz.seq hS) (hg.mono sz), dpI (l := []) (SqL.of hz), shRs _, shI [], ?_⟩
    rw [show PyData.eqv (.list (rs.map dR)) (.list (([] : List Nat).map fun (x : Nat) => PyData.int x)) = decide (rs = []) from eqRs0 rs]
    refine ⟨_, rfl, ?_⟩
    by_cases c0 : rs = []
    · refine decT c0 ?_
      have := q _ sz
      rw [c0, txA_nil] at this
      exact this
    refine decF c0 ?_
    have q : ∀ H' : Hp, Same (upd H pz (.lst [])) H' → Q (.str (txA rs)) H' := fun H' s => q H' (sz.trans s)
    have hS := sz.seq hS
    have hg := hg.mono sz
    generalize upd H pz (.lst []) = H at hS hg q ⊢
    refine ⟨⟨_, rfl⟩, _, rfl, a, rfl, ⟨_, hS⟩, fun D nD => ?_⟩
    refine lc_list (K := K) (a := a) (xs := as.map V.ref) (fun i H1 => Same H H1 ∧ H1 D = some (.lst (((rs.take i).map txR).map V.str))) ⟨same_upd nD, upd_same⟩ (fun i H1 _ ⟨s1, _⟩ => s1.seq hS) ?_ ?_
    · rintro i y H1 hi ⟨s1, hD⟩
      obtain ⟨b, hb, rfl⟩ : ∃ b, as[i]? = some b ∧ y = V.ref b := by
        rw [List.getElem?_map] at hi
        cases e : as[i]? with
        | none => rw [e] at hi; cases hi
        | some b => rw [e] at hi; exact ⟨b, rfl, (Option.some.inj hi).symm⟩
      have hil : i < rs.length := by rw [← hg.len]; exact (List.getElem?_eq_some_iff.mp hb).1
      obtain ⟨r, hr'⟩ : ∃ r, rs[i]? = some r := ⟨_, List.getElem?_eq_getElem hil⟩
      have hbr := hg.at_ i b r hb hr'
      have hrx : ∀ x ∈ r, x < 1000 := fun x hx' => hx x (List.mem_flatten.mpr ⟨r, List.mem_of_getElem? hr', hx'⟩)
      have hrl : r.length ≤ 1000 := by
        have := mem_len (List.mem_of_getElem? hr')
        omega
      refine ⟨rfl, yesT ?_⟩
      refine ⟨⟨_, rfl⟩, _, rfl, b, rfl, ⟨_, SqL.of (s1 _ _ hbr)⟩, fun D2 nD2 => ?_⟩
      refine lc_list (K := K) (a := b) (xs := r.map nv) (fun j H2 => Same H1 H2 ∧ H2 D2 = some (.lst (((r.take j).map txN).map V.str))) ⟨same_upd nD2, upd_same⟩ (fun j H2 _ ⟨s2, _⟩ => SqL.of (s2 _ _ (s1 _ _ hbr))) ?_ ?_
      · rintro j y H2 hj ⟨s2, hD2⟩
        obtain ⟨x, hx', rfl⟩ := of_nv_get hj
        refine ⟨rfl, yesT ?_⟩
        refine ⟨_, rfl, (x : Int), rfl, ?_, _, hD2, small64 (by rw [List.length_map, List.length_map, List.length_take]; omega), mutS s2 nD2, ?_⟩
        · have := hrx x (List.mem_of_getElem? hx')
          rw [Int.natAbs_natCast]
          exact Nat.lt_of_le_of_lt (Nat.log2_le_self x) (by omega)
        · rw [upd_same, List.take_add_one, hx', List.map_append, List.map_append]
          rfl
      · rintro H2 ⟨s2, hD2⟩
        rw [List.length_map, List.take_length] at hD2
        have b1 := join_ring hrx
        have b2 := txR_len hrx
        have b3 : (Txt.join "," (r.map txN)).length ≤ r.length * 4 + r.length := by
          have a := join_le "," (r.map txN)
          rw [List.length_map, comma_len] at a
          omega
        refine ⟨",", D2, r.map txN, rfl, rfl, .inl (SqL.of hD2), by rw [List.length_map, comma_len]; omega, "(", _, rfl, rfl, by rw [open_len, sizeLine_eq]; omega, _, ")", rfl, rfl, by rw [app_len, open_len, close_len, sizeLine_eq]; omega,
          _, s2 _ _ hD, small64 (by rw [List.length_map, List.length_map, List.length_take]; omega), mutS (s1.trans s2) nD, ?_⟩
        rw [upd_same, List.take_add_one, hr', List.map_append, List.map_append]
        rfl
    · rintro H1 ⟨s1, hD⟩
      rw [List.length_map, hg.len, List.take_length] at hD
      have b1 := txJ_sum hx
      have b2 : (txJ rs).length ≤ 10000 := by
        have a := join_le "" (rs.map txR)
        rw [List.length_map, none_len] at a
        show (Txt.join "" (rs.map txR)).length ≤ _
        omega
      refine ⟨"", D, rs.map txR, rfl, rfl, .inl (SqL.of hD), by rw [List.length_map, none_len]; omega, ?_⟩
      have := q H1 s1
      unfold txA at this
      rw [if_neg (txJ_ne c0)] at this
      exact this
end
theorem dec_nv (a b : Nat) : decide (nv a = nv b) = decide (a = b) := by
  by_cases c : a = b
  · rw [decide_eq_true c, decide_eq_true (by rw [c])]
  · rw [decide_eq_false c, decide_eq_false (fun z => c (by have := V.int.inj z; omega))]
section
variable {P : Program} {w : World} {K : PySem.W.Frag} {mg : Str → Option Value} {base : Heap}
/-! ### _law_sign -/
def signs95 : Str := (" !\"#$&'()*+,-./0123456789:;<=>?@ABCDEFGHIJKLMNOPQRSTUVWXYZ[\\]^_`" : Str) ++ ("abcdefghijklmnopqrstuvwxyz{|}~\n" : Str)
theorem signs95_len : signs95.length = 95 := by decide +kernel
theorem signs95_ascii : ∀ c ∈ cs signs95, c < 128 := by decide +kernel
abbrev s_l_sign : Stmt := top 37
theorem sc_l_sign : FnScope ["_law_k", "_law_signs"] ["_law_k"] (defScope s_l_sign) := ⟨rfl, rfl, rfl, by decide +kernel, rfl, by decide +kernel, by decide +kernel⟩

def spSign : Sp := fun vs H Q _ => ∃ k : Nat, vs = [nv k] ∧ ∀ c : Nat, c < 128 → Q (.str ⟨#[c]⟩) H
theorem ok_l_sign {f : Addr} {fd : FuncData} (F : Fun K "_law_sign" "_law_sign" s_l_sign f fd) : FnOk P w K mg base CX0 1 f fd ["_law_k"] spSign := by
  refine F.ok sc_l_sign (fun vs H Q E h => ?_) (fun cdv A outer s H vs Q E hr h => ?_)
  · obtain ⟨k, rfl, _⟩ := h; rfl
  · obtain ⟨k, rfl, q⟩ := h
    refine ⟨_, (pss_cons (ps_set (i := 1) sc_l_sign.nd rfl (.inl rfl) pe_str)
    (pss_cons (ps_set (i := 1) sc_l_sign.nd rfl (.inl rfl) (pe_op op_addS (pv 1) pe_str))
    (pss_one (ps_ret (pe_ix ix_str (pv 1) (pe_op op_mod (pv 0) pe_int) (fun _ _ => rfl)))))), ?_⟩
    refine ⟨_, rfl, _, _, rfl, rfl, by rw [sizeLine_eq]; decide +kernel, _, rfl, _, rfl, _, _, rfl, rfl, (by show (0 : Int) < 95; decide), ?_⟩
    have hk : k % 95 < signs95.cps.toList.length := by
      have : signs95.cps.toList.length = 95 := signs95_len
      rw [this]
      exact Nat.mod_lt _ (by decide)
    refine ⟨signs95, _, signs95.cps.toList[k % 95], rfl, rfl, by rw [signs95_len, sizeLine_eq]; decide, ?_, q _ (signs95_ascii _ (List.getElem_mem hk))⟩
    exact atI_nat (j := k % 95) (List.getElem?_eq_getElem hk)
/-! ### _law_spoilt -/
def rLenTx : List V → Hp → VK → Prop := fun xs H Q => ∃ z, xs = [.str z] ∧ z.length ≤ sizeLine ∧ Q (.int z.length) H
theorem call_lenT {X : Cx} : CallR X (.builtin "len") rLenTx := call_len_str
/-- the text and one step from it: signs put in, left out, changed -/
def Step (t s : Str) : Prop := ∃ (i j : Nat) (m : List Nat), i ≤ (cs t).length ∧ (j = i ∨ j = i + 1) ∧ m.length ≤ 1 ∧ (∀ c ∈ m, c < 128 ∨ c ∈ cs t) ∧ cs s = (cs t).take i ++ m ++ (cs t).drop j
theorem Step.same (t : Str) : Step t t := ⟨0, 0, [], Nat.zero_le _, .inl rfl, Nat.zero_le _, (by intro c h; cases h), by simp⟩
theorem cs_to (t : Str) {i : Nat} (h : i ≤ t.length) : cs (cutS t none (some (i : Int))) = (cs t).take i := by
  show (((cs t).drop (HT.sIx t.length 0 none)).take (HT.sIx t.length t.length (some (i : Int)) - HT.sIx t.length 0 none)) = _
  rw [HT.sIx_nat, HT.sIx_none, List.drop_zero, Nat.sub_zero, Nat.min_eq_left h]
theorem cs_from (t : Str) (i : Nat) : cs (cutS t (some (i : Int)) none) = (cs t).drop i := by
  show (((cs t).drop (HT.sIx t.length 0 (some (i : Int)))).take (HT.sIx t.length t.length none - HT.sIx t.length 0 (some (i : Int)))) = _
  rw [HT.sIx_nat, HT.sIx_none]
  by_cases c : i ≤ t.length
  · rw [Nat.min_eq_left c, List.take_of_length_le (by rw [List.length_drop, cs_len]; exact Nat.le_refl _)]
  · rw [Nat.min_eq_right (by omega), List.drop_eq_nil_of_le (by rw [cs_len]; exact Nat.le_refl _), List.drop_eq_nil_of_le (by rw [cs_len]; omega), List.take_nil]
theorem cs_mid (t : Str) (i : Nat) : cs (cutS t (some (i : Int)) (some ((i + 1 : Nat) : Int))) = ((cs t).drop i).take 1 := by
  show (((cs t).drop (HT.sIx t.length 0 (some (i : Int)))).take (HT.sIx t.length t.length (some ((i + 1 : Nat) : Int)) - HT.sIx t.length 0 (some (i : Int)))) = _
  rw [HT.sIx_nat, HT.sIx_nat]
  by_cases c : i + 1 ≤ t.length
  · rw [Nat.min_eq_left c, Nat.min_eq_left (by omega), show i + 1 - i = 1 by omega]
  · rw [Nat.min_eq_right (by omega)]
    have e : (cs t).drop (min i t.length) = [] := List.drop_eq_nil_of_le (by rw [cs_len]; omega)
    have e2 : (cs t).drop i = [] := List.drop_eq_nil_of_le (by rw [cs_len]; omega)
    rw [e, e2, List.take_nil, List.take_nil]
theorem cutS_le (t : Str) (a b : Option Int) : (cutS t a b).length ≤ t.length := cutS_length t a b
abbrev s_l_spoilt : Stmt := top 38
theorem sc_l_spoilt : FnScope ["_law_text_here", "_law_kind_here", "_law_place", "_law_k", "_law_at"] ["_law_text_here", "_law_kind_here", "_law_place", "_law_k"] (defScope s_l_spoilt) := ⟨rfl, rfl, rfl, by decide +kernel, rfl, by decide +kernel, by decide +kernel⟩

def spSpoilt : Sp := fun vs H Q _ => ∃ (t : Str) (kd pl k : Nat), vs = [.str t, nv kd, nv pl, nv k] ∧ t.length ≤ 1000 ∧ ∀ s : Str, Step t s → Q (.str s) H
theorem ok_l_spoilt {f : Addr} {fd : FuncData} (F : Fun K "_law_spoilt" "_law_spoilt" s_l_spoilt f fd) (T : Blt mg) (D_l_sign : DefOk P w K mg base CX0 1 "_law_sign" ["_law_k"] [] spSign) : FnOk P w K mg base CX0 2 f fd ["_law_text_here", "_law_kind_here", "_law_place", "_law_k"] spSpoilt := by
  refine F.ok sc_l_spoilt (fun vs H Q E h => ?_) (fun cdv A outer s H vs Q E hr h => ?_)
  · obtain ⟨t, kd, pl, k, rfl, _⟩ := h; rfl
  · obtain ⟨t, kd, pl, k, rfl, hl, q⟩ := h
    refine ⟨_, (pss_cons (ps_set (i := 4) sc_l_spoilt.nd rfl (.inl rfl) (pe_op op_mod (pv 2) (pe_op op_add (pe_callB call_lenT (by rfl) T.len PySem.boot_len (pa_cons (pv 0) pa_nil)) pe_int)))
    (pss_cons (ps_if (pt_cmpR op_eq (pv 1) pe_int (nomark _)) (pss_one (ps_ret (pv 0))) pss_nil)
    (pss_cons (ps_if (pt_cmpR op_eq (pv 1) pe_int (nomark _)) (pss_one (ps_ret (pe_op op_addS (pe_op op_addS (pe_slice sl_str (pv 0) po_none (po_some (pv 4))) (pe_d D_l_sign hr pass0 (pa_cons (pv 3) pa_nil))) (pe_slice sl_str (pv 0) (po_some (pv 4)) po_none)))) pss_nil)
    (pss_cons (ps_if (pt_cmpR op_eq (pv 1) pe_int (nomark _)) (pss_one (ps_ret (pe_op op_addS (pe_slice sl_str (pv 0) po_none (po_some (pv 4))) (pe_slice sl_str (pv 0) (po_some (pe_op op_add (pv 4) pe_int)) po_none)))) pss_nil)
    (pss_cons (ps_if (pt_cmpR op_eq (pv 1) pe_int (nomark _)) (pss_one (ps_ret (pe_op op_addS (pe_op op_addS (pe_slice sl_str (pv 0) po_none (po_some (pv 4))) (pe_d D_l_sign hr pass0 (pa_cons (pv 3) pa_nil))) (pe_slice sl_str (pv 0) (po_some (pe_op op_add (pv 4) pe_int)) po_none)))) pss_nil)
    (pss_one (ps_ret (pe_op op_addS (pe_op op_addS (pe_slice sl_str (pv 0) po_none (po_some (pv 4))) (pe_slice sl_str (pv 0) (po_some (pv 4)) (po_some (pe_op op_add (pv 4) pe_int)))) (pe_slice sl_str (pv 0) (po_some (pv 4)) po_none))))))))), ?_⟩
    have tl : t.length ≤ sizeLine := by rw [sizeLine_eq]; omega
    refine ⟨_, rfl, _, rfl, t, rfl, tl, _, _, rfl, rfl, _, _, rfl, rfl, (by omega), ?_⟩
    obtain ⟨i, hi⟩ : ∃ i, i = pl % (t.length + 1) := ⟨_, rfl⟩
    have il : i ≤ t.length := by
      have := Nat.mod_lt pl (show 0 < t.length + 1 by omega)
      omega
    have em : (pl : Int) % ((t.length : Nat) + 1 : Int) = (i : Int) := by rw [hi]; rfl
    have ic : i ≤ (cs t).length := il
    refine ⟨_, rfl, rfl, _, rfl, ?_⟩
    have e0 : decide (nv kd = V.int 0) = decide (kd = 0) := dec_nv kd 0
    rw [e0]
    by_cases c0 : kd = 0
    · exact decT c0 ⟨_, rfl, q t (.same t)⟩
    refine decF c0 ⟨_, rfl, rfl, _, rfl, ?_⟩
    have e1 : decide (nv kd = V.int 1) = decide (kd = 1) := dec_nv kd 1
    rw [e1]
    by_cases c1 : kd = 1
    · refine decT c1 ?_
      refine ⟨_, rfl, _, rfl, _, rfl, t, rfl, tl, _, rfl, k, rfl, fun c hc => ?_⟩
      have l1 := cutS_le t none (some ((pl : Int) % ((t.length : Nat) + 1)))
      have l2 := cutS_le t (some ((pl : Int) % ((t.length : Nat) + 1))) none
      have lc : (⟨#[c]⟩ : Str).length = 1 := rfl
      refine ⟨_, _, rfl, rfl, by rw [lc, sizeLine_eq]; omega, _, rfl, _, rfl, _, rfl, t, rfl, tl, _, _, rfl, rfl, by rw [app_len, lc, sizeLine_eq]; omega, q _ ⟨i, i, [c], ic, .inl rfl, Nat.le_refl _, (by intro x hx; rw [List.mem_singleton.mp hx]; exact .inl hc), ?_⟩⟩
      rw [em, cs_app, cs_app, cs_to t il, cs_from t i]
      rfl
    refine decF c1 ⟨_, rfl, rfl, _, rfl, ?_⟩
    have e2 : decide (nv kd = V.int 2) = decide (kd = 2) := dec_nv kd 2
    rw [e2]
    have em1 : (pl : Int) % ((t.length : Nat) + 1 : Int) + 1 = ((i + 1 : Nat) : Int) := by rw [em]; rfl
    by_cases c2 : kd = 2
    · refine decT c2 ?_
      have l1 := cutS_le t none (some ((pl : Int) % ((t.length : Nat) + 1)))
      have l2 := cutS_le t (some ((pl : Int) % ((t.length : Nat) + 1) + 1)) none
      refine ⟨_, rfl, _, rfl, _, rfl, t, rfl, tl, _, rfl, _, rfl, _, _, rfl, rfl, _, rfl, t, rfl, tl, _, _, rfl, rfl, by rw [sizeLine_eq]; omega, q _ ⟨i, i + 1, [], ic, .inr rfl, Nat.zero_le _, (by intro x hx; cases hx), ?_⟩⟩
      rw [em1, em, cs_app, cs_to t il, cs_from t (i + 1), List.append_nil]
    refine decF c2 ⟨_, rfl, rfl, _, rfl, ?_⟩
    have e3 : decide (nv kd = V.int 3) = decide (kd = 3) := dec_nv kd 3
    rw [e3]
    by_cases c3 : kd = 3
    · refine decT c3 ?_
      refine ⟨_, rfl, _, rfl, _, rfl, t, rfl, tl, _, rfl, k, rfl, fun c hc => ?_⟩
      have l1 := cutS_le t none (some ((pl : Int) % ((t.length : Nat) + 1)))
      have l2 := cutS_le t (some ((pl : Int) % ((t.length : Nat) + 1) + 1)) none
      have lc : (⟨#[c]⟩ : Str).length = 1 := rfl
      refine ⟨_, _, rfl, rfl, by rw [lc, sizeLine_eq]; omega, _, rfl, _, rfl, _, _, rfl, rfl, _, rfl, t, rfl, tl, _, _, rfl, rfl, by rw [app_len, lc, sizeLine_eq]; omega, q _ ⟨i, i + 1, [c], ic, .inr rfl, Nat.le_refl _, (by intro x hx; rw [List.mem_singleton.mp hx]; exact .inl hc), ?_⟩⟩
      rw [em1, em, cs_app, cs_app, cs_to t il, cs_from t (i + 1)]
      rfl
    refine decF c3 ?_
    have l1 := cutS_le t none (some ((pl : Int) % ((t.length : Nat) + 1)))
    have l2 := cutS_le t (some ((pl : Int) % ((t.length : Nat) + 1))) (some ((pl : Int) % ((t.length : Nat) + 1) + 1))
    have l3 := cutS_le t (some ((pl : Int) % ((t.length : Nat) + 1))) none
    refine ⟨_, rfl, _, rfl, _, rfl, t, rfl, tl, _, rfl, _, rfl, _, rfl, _, rfl, _, _, rfl, rfl, _, rfl, t, rfl, tl, _, _, rfl, rfl, by rw [sizeLine_eq]; omega, _, rfl, _, rfl, _, rfl, t, rfl, tl, _, _, rfl, rfl, by rw [app_len, sizeLine_eq]; omega, q _ ⟨i, i, ((cs t).drop i).take 1, ic, .inl rfl, by rw [List.length_take]; omega, (fun x hx => .inr (List.mem_of_mem_drop (List.mem_of_mem_take hx))), ?_⟩⟩
    rw [em1, em, cs_app, cs_app, cs_to t il, cs_mid t i, cs_from t i]
end
section
variable {P : Program} {w : World} {K : PySem.W.Frag} {mg : Str → Option Value} {base : Heap}
/-! ### _law_name -/
abbrev s_l_name : Stmt := top 31
theorem sc_l_name : FnScope ["_law_draw", "_law_out", "_law_left", "_law_k"] ["_law_draw"] (defScope s_l_name) := ⟨rfl, rfl, rfl, by decide +kernel, rfl, by decide +kernel, by decide +kernel⟩

def alpha : Str := "abcdefghijklmnopqrstuvwxyz"
theorem alpha_len : alpha.length = 26 := by decide +kernel
theorem alpha_low : ∀ c ∈ alpha.cps.toList, 97 ≤ c ∧ c ≤ 122 := by decide +kernel
/-- small letters -/
def Low (t : Str) : Prop := ∀ c ∈ cs t, 97 ≤ c ∧ c ≤ 122
def spName : Sp := fun vs H Q _ => ∃ d : Nat, vs = [nv d] ∧ ∀ t : Str, 1 ≤ t.length → t.length ≤ 8 → Low t → Q (.str t) H
theorem ok_l_name {f : Addr} {fd : FuncData} (F : Fun K "_law_name" "_law_name" s_l_name f fd) (T : Blt mg) : FnOk P w K mg base CX0 1 f fd ["_law_draw"] spName := by
  refine F.ok sc_l_name (fun vs H Q E h => ?_) (fun cdv A outer s H vs Q E hr h => ?_)
  · obtain ⟨d, rfl, _⟩ := h; rfl
  · obtain ⟨d, rfl, q⟩ := h
    refine ⟨_, (pss_cons (ps_set (i := 1) sc_l_name.nd rfl (.inl rfl) pe_str)
    (pss_cons (ps_set (i := 2) sc_l_name.nd rfl (.inl rfl) (pe_op op_fdiv (pv 0) pe_int))
    (pss_cons (ps_for PassesOwn.never rfl (pi_range1 (by rfl) T.range (pa_cons (pe_op op_add pe_int (pe_op op_mod (pe_callTy call_int1 (by rfl) T.int (by decide +kernel) (pa_cons (pv 0) pa_nil)) pe_int)) pa_nil)) (pg_name (i := 3) sc_l_name.nd rfl (.inl rfl)) (pss_cons (ps_set (i := 1) sc_l_name.nd rfl (.inl rfl) (pe_op op_addS (pv 1) (pe_ix ix_str pe_str (pe_op op_mod (pe_callTy call_int1 (by rfl) T.int (by decide +kernel) (pa_cons (pv 2) pa_nil)) pe_int) (fun _ _ => rfl))))
    (pss_one (ps_set (i := 2) sc_l_name.nd rfl (.inl rfl) (pe_op op_fdiv (pv 2) pe_int)))))
    (pss_one (ps_ret (pv 1)))))), ?_⟩
    refine ⟨_, rfl, _, _, rfl, rfl, ⟨by decide, by decide⟩, ?_⟩
    have em : (1 + (d : Int) % 8) = ((1 + d % 8 : Nat) : Int) := by omega
    refine ⟨_, rfl, .inl ⟨_, rfl, _, _, rfl, rfl, (by show (0 : Int) < 8; decide), _, _, rfl, rfl, ((1 + d % 8 : Nat) : Int), (by show [V.int (1 + (d : Int) % 8)] = _; rw [em]), by omega, by omega, ?_⟩⟩
    rw [Int.toNat_natCast]
    refine for_range (lo := 0) (n := 1 + d % 8) (fun i σ H2 => ∃ (v3 : Option V) (t : Str) (left : Nat), σ = [some (nv d), some (.str t), some (nv left), v3] ∧ H2 = H ∧ t.length = i ∧ Low t) ⟨none, _, d / 8, rfl, rfl, by decide +kernel, by unfold Low; decide +kernel⟩ ?_ ?_
    · rintro i σ H2 hi ⟨v3, t, left, rfl, rfl, tl, lt⟩
      have hk : left % 26 < alpha.cps.toList.length := by
        have : alpha.cps.toList.length = 26 := alpha_len
        rw [this]
        exact Nat.mod_lt _ (by decide)
      have hc := alpha_low _ (List.getElem_mem hk)
      refine ⟨_, rfl, _, rfl, .inl ⟨_, rfl, _, _, rfl, rfl, (by show (0 : Int) < 26; decide), alpha, _, alpha.cps.toList[left % 26], rfl, rfl, by rw [alpha_len, sizeLine_eq]; decide, atI_nat (j := left % 26) (List.getElem?_eq_getElem hk), _, _, rfl, rfl, ?_, ?_⟩⟩
      · rw [tl, sizeLine_eq]
        show i + 1 ≤ _
        omega
      · refine ⟨_, rfl, _, _, rfl, rfl, ⟨by decide, by decide⟩, ?_⟩
        refine ⟨_, _, left / 26, rfl, rfl, ?_, ?_⟩
        · rw [app_len, tl]
          rfl
        · intro c hc2
          rw [cs_app] at hc2
          rcases List.mem_append.mp hc2 with h | h
          · exact lt c h
          · rw [List.mem_singleton.mp h]
            exact hc
    · rintro σ H2 ⟨v3, t, left, rfl, rfl, tl, lt⟩
      exact ⟨_, rfl, q t (by omega) (by omega) lt⟩
end
section
variable {P : Program} {w : World} {K : PySem.W.Frag} {mg : Str → Option Value} {base : Heap}
def Good (s : Str) : Prop := ∀ c ∈ cs s, c < 1114112
theorem cs_none : cs ("" : Str) = [] := by decide +kernel
theorem dpStrs {H : Hp} {a : Addr} {ws : List Str} (h : SqL K H a (ws.map V.str)) : Dp K H (.ref a) (.list (ws.map PyData.str)) := by
  refine .lst h ?_
  clear h
  induction ws with
  | nil => exact .nil
  | cons x ws ih => exact .cons (.str x) ih
theorem shStrs {ws : List Str} (h : ∀ w ∈ ws, Good w) : SeqAt.shaped (.list (ws.map PyData.str)) = true := by
  have a : PyData.canLayAll0 (ws.map PyData.str) = true := by
    induction ws with
    | nil => rfl
    | cons x ws ih =>
      have ok : PyData.strOk x = true := by
        unfold PyData.strOk
        exact Array.all_eq_true_iff_forall_mem.mpr fun c hc => decide_eq_true (h x List.mem_cons_self c (Array.mem_toList_iff.mpr hc))
      rw [List.map_cons, PyData.canLayAll0, ih fun w hw => h w (List.mem_cons_of_mem _ hw), PyData.canLay0, ok]
      rfl
  have b : PyData.depthAll (ws.map PyData.str) = 0 := by
    clear a h
    induction ws with
    | nil => rfl
    | cons x ws ih =>
      rw [List.map_cons, PyData.depthAll, ih]
      rfl
  unfold SeqAt.shaped
  rw [PyData.canLay0, a, PyData.depth, b]
  rfl
theorem eqStrs0 (ws : List Str) : PyData.eqv (.list (ws.map PyData.str)) (.list []) = decide (ws = []) := by
  rw [PyData.eqv]
  cases ws with
  | nil => rfl
  | cons x ws => rfl
/-! ### names -/
/-- 1 to 8 small letters -/
def isNm (t : Str) : Bool := decide (1 ≤ t.length ∧ t.length ≤ 8) && (cs t).all fun c => decide (97 ≤ c ∧ c ≤ 122)
def alphaL : List Nat := cs alpha
theorem mem_alpha {c : Nat} : c ∈ alphaL ↔ 97 ≤ c ∧ c ≤ 122 := by
  have e : alphaL = [97, 98, 99, 100, 101, 102, 103, 104, 105, 106, 107, 108, 109, 110, 111, 112, 113, 114, 115, 116, 117, 118, 119, 120, 121, 122] := by decide +kernel
  rw [e]
  simp only [List.mem_cons, List.not_mem_nil, or_false]
  omega
abbrev s_l_is_name : Stmt := top 42
theorem sc_l_is_name : FnScope ["_law_text_here", "_law_sign_here"] ["_law_text_here"] (defScope s_l_is_name) := ⟨rfl, rfl, rfl, by decide +kernel, rfl, by decide +kernel, by decide +kernel⟩

def spIsName : Sp := fun vs H Q _ => ∃ t : Str, vs = [.str t] ∧ t.length ≤ 1000 ∧ Good t ∧ ∀ H' : Hp, Same H H' → Q (.bl (isNm t)) H'
theorem ok_l_is_name {f : Addr} {fd : FuncData} (F : Fun K "_law_is_name" "_law_is_name" s_l_is_name f fd) (T : Blt mg) : FnOk P w K mg base CX0 1 f fd ["_law_text_here"] spIsName := by
  refine F.ok sc_l_is_name (fun vs H Q E h => ?_) (fun cdv A outer s H vs Q E hr h => ?_)
  · obtain ⟨x, rfl, _⟩ := h; rfl
  · obtain ⟨x, rfl, hl, hG, q⟩ := h
    have hu2 : (A.deeper (envOfC "_law_is_name" (defScope s_l_is_name) s.heap.objs.size f cdv)).units + 64 < cLine := by have := hr.un; omega
    have xl : x.length ≤ sizeLine := by rw [sizeLine_eq]; omega
    refine ⟨_, (pss_cons (ps_if (PW.pt (pw_or (pt_cmpR op_lt (pe_callB call_lenT (by rfl) T.len PySem.boot_len (pa_cons (pv 0) pa_nil)) pe_int (nomark _)) (pw_or1 (pt_cmpR op_gt (pe_callB call_lenT (by rfl) T.len PySem.boot_len (pa_cons (pv 0) pa_nil)) pe_int (nomark _))))) (pss_one (ps_ret pe_bl)) pss_nil)
    (pss_one (ps_ret (pe_cmpR (op_eqD hu2) (pe_lc (own := [("_law_sign_here", 1)]) rfl sc_l_is_name.nd (pi_str (pv 0)) (blkOk_by (N := ["_law_text_here", "_law_sign_here"]) (sc := defScope s_l_is_name) (by decide +kernel)) (fun _ _ _ _ _ => (pg_name (i := 1) sc_l_is_name.nd rfl (.inl rfl))) (fun _ _ _ _ _ => (by exact (pts_one (pt_cmpR op_notIn_sign (pv 1) pe_str rfl)))) (fun _ _ _ _ _ => by exact (pv 1))) (pe_lst pa_nil) (nomark _))))), ?_⟩
    refine ⟨_, rfl, x, rfl, xl, _, _, rfl, rfl, _, rfl, ?_⟩
    by_cases c0 : x.length < 1
    · have e : isNm x = false := by unfold isNm; rw [decide_eq_false (by omega)]; rfl
      refine decT (by omega) (iteT ?_)
      have := q H (Same.refl _)
      rw [e] at this
      exact this
    refine decF (by omega) ⟨_, rfl, x, rfl, xl, _, _, rfl, rfl, _, rfl, ?_⟩
    by_cases c1 : 8 < x.length
    · have e : isNm x = false := by unfold isNm; rw [decide_eq_false (by omega)]; rfl
      refine decT (by omega) ?_
      have := q H (Same.refl _)
      rw [e] at this
      exact this
    refine decF (by omega) ?_
    have en : isNm x = ((cs x).all fun c => decide (97 ≤ c ∧ c ≤ 122)) := by unfold isNm; rw [decide_eq_true (by omega), Bool.true_and]
    refine ⟨_, rfl, x, rfl, fun D nD => ?_⟩
    refine lc_it (walk_str (z := x)) (fun i H1 => Same H H1 ∧ H1 D = some (.lst (((((cs x).take i).filter fun c => !decide (c ∈ alphaL)).map fun c => (⟨#[c]⟩ : Str)).map V.str))) ⟨same_upd nD, upd_same⟩ (fun i H1 _ _ => trivial) ?_ ?_
    · rintro i y H1 H2 hi ⟨s1, hD⟩ ⟨rfl, c, hc, rfl⟩
      have hcL : (cs x)[i]? = some c := by
        show x.cps.toList[i]? = some c
        rw [Array.getElem?_toList]
        exact hc
      refine ⟨rfl, _, rfl, c, alpha, rfl, rfl, _, rfl, ?_⟩
      by_cases m : c ∈ alphaL
      · have e2 : (!decide (c ∈ alpha.cps.toList)) = false := by rw [show decide (c ∈ alpha.cps.toList) = decide (c ∈ alphaL) from rfl, decide_eq_true m]; rfl
        rw [e2]
        refine iteF ⟨s1, ?_⟩
        rw [hD, List.take_add_one, hcL]
        simp [List.filter_append, m]
      · have e2 : (!decide (c ∈ alpha.cps.toList)) = true := by rw [show decide (c ∈ alpha.cps.toList) = decide (c ∈ alphaL) from rfl, decide_eq_false m]; rfl
        rw [e2]
        have fl : (((cs x).take i).filter fun c => !decide (c ∈ alphaL)).length ≤ x.length := by
          refine Nat.le_trans (List.length_filter_le _ _) ?_
          rw [List.length_take, cs_len]
          omega
        refine iteT ⟨_, rfl, _, hD, small64 (by rw [List.length_map, List.length_map]; omega), mutS s1 nD, ?_⟩
        rw [upd_same, List.take_add_one, hcL]
        simp [List.filter_append, m]
    · rintro H1 ⟨s1, hD⟩
      have tk : (cs x).take x.cps.size = cs x := List.take_of_length_le (Nat.le_refl _)
      rw [tk] at hD
      refine ⟨Nat.zero_le _, fun pz npz => ?_⟩
      have sz := same_upd (o := .lst []) npz
      have s2 := s1.trans sz
      refine ⟨_, _, dpStrs (SqL.of (sz _ _ hD)), dpStrs (ws := []) (SqL.of upd_same), shStrs ?_, shStrs (ws := []) (by intro w h; cases h), ?_⟩
      · intro w hw c hc
        obtain ⟨c', hc', rfl⟩ := List.mem_map.mp hw
        have : c = c' := List.mem_singleton.mp hc
        rw [this]
        exact hG c' (List.mem_filter.mp hc').1
      rw [show PyData.eqv (.list (((((cs x).filter fun c => !decide (c ∈ alphaL)).map fun c => (⟨#[c]⟩ : Str)).map PyData.str))) (.list (([] : List Str).map PyData.str)) = decide ((((cs x).filter fun c => !decide (c ∈ alphaL)).map fun c => (⟨#[c]⟩ : Str)) = []) from eqStrs0 _]
      have ef : decide ((((cs x).filter fun c => !decide (c ∈ alphaL)).map fun c => (⟨#[c]⟩ : Str)) = []) = isNm x := by
        rw [en]
        by_cases ad : ∀ c ∈ cs x, 97 ≤ c ∧ c ≤ 122
        · have e3 : (((cs x).filter fun c => !decide (c ∈ alphaL)).map fun c => (⟨#[c]⟩ : Str)) = [] := by
            rw [List.map_eq_nil_iff, List.filter_eq_nil_iff]
            intro c hc
            simp [mem_alpha.mpr (ad c hc)]
          rw [e3, decide_eq_true rfl]
          symm
          rw [List.all_eq_true]
          exact fun c hc => decide_eq_true (ad c hc)
        · rw [decide_eq_false fun h => ad fun c hc => ?_]
          · symm
            rw [← Bool.not_eq_true, List.all_eq_true]
            exact fun h => ad fun c hc => of_decide_eq_true (h c hc)
          · rw [List.map_eq_nil_iff, List.filter_eq_nil_iff] at h
            have := h c hc
            exact mem_alpha.mp (by simpa using this)
      rw [ef]
      exact q _ s2
end
def rLeStr : R2 := fun x y H Q => ∃ i j, x = .str i ∧ y = .str j ∧ Q (.bl (!decide (j.cps.toList < i.cps.toList))) H
theorem op_leS {X : Cx} : OpR X (compareOp .LtE) rLeStr := op_le_str
section
variable {P : Program} {w : World} {K : PySem.W.Frag} {mg : Str → Option Value} {base : Heap}
/-! ### is_name -/
abbrev s_is_name : Stmt := top 27
theorem sc_is_name : FnScope ["text", "letter"] ["text"] (defScope s_is_name) := ⟨rfl, rfl, rfl, by decide +kernel, rfl, by decide +kernel, by decide +kernel⟩

theorem le_sign (a b : Nat) : (!decide (([b] : List Nat) < [a])) = decide (a ≤ b) := by
  by_cases c : a ≤ b
  · rw [decide_eq_true c, decide_eq_false (fun h => ?_)]; rfl
    rcases List.cons_lt_cons_iff.mp h with h | ⟨_, h⟩
    · omega
    · exact absurd h (List.lt_irrefl [])
  · rw [decide_eq_false c, decide_eq_true (List.cons_lt_cons_iff.mpr (.inl (by omega)))]; rfl
theorem ok_is_name {f : Addr} {fd : FuncData} (F : Fun K "is_name" "is_name" s_is_name f fd) (T : Blt mg) : FnOk P w K mg base CX0 1 f fd ["text"] spIsName := by
  refine F.ok sc_is_name (fun vs H Q E h => ?_) (fun cdv A outer s H vs Q E hr h => ?_)
  · obtain ⟨x, rfl, _⟩ := h; rfl
  · obtain ⟨x, rfl, hl, hG, q⟩ := h
    have xl : x.length ≤ sizeLine := by rw [sizeLine_eq]; omega
    refine ⟨_, (pss_one (ps_ret (pe_and (pe_chain op_le op_le pe_int (pe_callB call_lenT (by rfl) T.len PySem.boot_len (pa_cons (pv 0) pa_nil)) pe_int) (pe_one (pe_callB (cr_all rfl) (by rfl) T.all (by decide +kernel) (pa_cons (pe_lc (own := [("letter", 1)]) (tt := tYes) (te := tChain rLeStr rLeStr (tC (.str "a")) (tVar 1) (tC (.str "z"))) rfl sc_is_name.nd (pi_str (pv 0)) (blkOk_by (N := ["text", "letter"]) (sc := defScope s_is_name) (by decide +kernel)) (fun _ _ _ _ _ => (pg_name (i := 1) sc_is_name.nd rfl (.inl rfl))) (fun _ _ _ _ _ => pts_nil) (fun _ _ _ _ _ => by exact (pe_chain op_leS op_leS pe_str (pv 1) pe_str))) pa_nil)))))), ?_⟩
    refine ⟨_, rfl, x, rfl, xl, _, _, rfl, rfl, _, rfl, ?_⟩
    by_cases c0 : (1 : Int) ≤ (x.length : Int)
    · refine decT c0 ⟨_, _, rfl, rfl, ?_⟩
      by_cases c1 : (x.length : Int) ≤ 8
      · have en : isNm x = ((cs x).all fun c => decide (97 ≤ c ∧ c ≤ 122)) := by unfold isNm; rw [decide_eq_true (by omega), Bool.true_and]
        refine ⟨_, rfl, decT c1 ?_⟩
        refine ⟨_, rfl, x, rfl, fun D nD => ?_⟩
        refine lc_it (walk_str (z := x)) (fun i H1 => Same H H1 ∧ H1 D = some (.lst ((((cs x).take i).map fun c => decide (97 ≤ c ∧ c ≤ 122)).map V.bl))) ⟨same_upd nD, upd_same⟩ (fun i H1 _ _ => trivial) ?_ ?_
        · rintro i y H1 H2 hi ⟨s1, hD⟩ ⟨rfl, c, hc, rfl⟩
          have hcL : (cs x)[i]? = some c := by
            show x.cps.toList[i]? = some c
            rw [Array.getElem?_toList]
            exact hc
          have lt : ((cs x).take i).length ≤ x.length := by rw [List.length_take, cs_len]; omega
          have ea : (!decide ((⟨#[c]⟩ : Str).cps.toList < ("a" : Str).cps.toList)) = decide (97 ≤ c) := le_sign 97 c
          have ez : (!decide (("z" : Str).cps.toList < (⟨#[c]⟩ : Str).cps.toList)) = decide (c ≤ 122) := le_sign c 122
          have fin : ∀ b : Bool, b = decide (97 ≤ c ∧ c ≤ 122) → ∃ acc, H2 D = some (.lst acc) ∧ acc.length < sizeLine ∧ (Same H (upd H2 D (.lst (acc ++ [V.bl b]))) ∧ (upd H2 D (.lst (acc ++ [V.bl b]))) D = some (.lst ((((cs x).take (i + 1)).map fun c => decide (97 ≤ c ∧ c ≤ 122)).map V.bl))) := fun b hb => by
            refine ⟨_, hD, small64 (by rw [List.length_map, List.length_map]; omega), mutS s1 nD, ?_⟩
            rw [upd_same, List.take_add_one, hcL, hb, List.map_append, List.map_append]
            rfl
          refine ⟨rfl, yesT ⟨_, rfl, _, _, rfl, rfl, _, rfl, ?_⟩⟩
          rw [ea]
          by_cases d1 : 97 ≤ c
          · refine decT d1 ⟨_, _, rfl, rfl, ?_⟩
            rw [ez]
            exact fin _ (by by_cases d2 : c ≤ 122 <;> simp [d1, d2])
          · refine decF d1 ?_
            exact fin false (by rw [decide_eq_false (fun h => d1 h.1)])
        · rintro H1 ⟨s1, hD⟩
          have tk : (cs x).take x.cps.size = cs x := List.take_of_length_le (Nat.le_refl _)
          rw [tk] at hD
          refine ⟨D, _, rfl, SqL.of hD, ?_⟩
          have e : ((cs x).map fun c => decide (97 ≤ c ∧ c ≤ 122)).all id = isNm x := by rw [en, List.all_map]; rfl
          rw [e]
          exact q _ s1
      · have e : isNm x = false := by unfold isNm; rw [decide_eq_false (by omega)]; rfl
        have := q H (Same.refl _)
        rw [e] at this
        exact ⟨_, rfl, decF c1 this⟩
    · have e : isNm x = false := by unfold isNm; rw [decide_eq_false (by omega)]; rfl
      have := q H (Same.refl _)
      rw [e] at this
      refine decF c0 ⟨_, rfl, iteF this⟩
end
section
variable {P : Program} {w : World} {K : PySem.W.Frag} {mg : Str → Option Value} {base : Heap}
/-! ### _law_is_known_kind -/
abbrev s_l_is_known_kind : Stmt := top 40
theorem sc_l_is_known_kind : FnScope ["_law_text_here"] ["_law_text_here"] (defScope s_l_is_known_kind) := ⟨rfl, rfl, rfl, by decide +kernel, rfl, by decide +kernel, by decide +kernel⟩

def isKd (t : Str) : Bool := t == ("wire" : Str) || (t == ("swaps" : Str) || t == ("mirror" : Str))
def spIsKind : Sp := fun vs H Q _ => ∃ t : Str, vs = [.str t] ∧ ∀ H' : Hp, Same H H' → Q (.bl (isKd t)) H'
theorem ok_l_is_known_kind {f : Addr} {fd : FuncData} (F : Fun K "_law_is_known_kind" "_law_is_known_kind" s_l_is_known_kind f fd) : FnOk P w K mg base CX0 1 f fd ["_law_text_here"] spIsKind := by
  refine F.ok sc_l_is_known_kind (fun vs H Q E h => ?_) (fun cdv A outer s H vs Q E hr h => ?_)
  · obtain ⟨x, rfl, _⟩ := h; rfl
  · obtain ⟨x, rfl, q⟩ := h
    refine ⟨_, (pss_one (ps_ret (pe_cmpR op_in_seq (pv 0) (pe_lst (pa_cons pe_str (pa_cons pe_str (pa_cons pe_str pa_nil)))) rfl))), ?_⟩
    refine ⟨_, rfl, by show 3 ≤ sizeLine; decide, fun p np => ?_⟩
    refine ⟨p, _, rfl, .inl (SqL.of upd_same), rfl, rfl, ?_⟩
    have e : (if false = true then !inV (V.str x) [V.str "wire", V.str "swaps", V.str "mirror"] else inV (V.str x) [V.str "wire", V.str "swaps", V.str "mirror"]) = isKd x := by
      show (eqV (V.str "wire") (V.str x) || (eqV (V.str "swaps") (V.str x) || (eqV (V.str "mirror") (V.str x) || false))) = isKd x
      have k : ∀ a : Str, eqV (V.str a) (V.str x) = (x == a) := fun a => by
        show (a == x) = (x == a)
        by_cases c : a = x
        · rw [c]
        · rw [beq_eq_false_iff_ne.mpr c, beq_eq_false_iff_ne.mpr (fun h => c h.symm)]
      rw [k, k, k, Bool.or_false]
      rfl
    have := q _ (same_upd (o := .lst [V.str "wire", V.str "swaps", V.str "mirror"]) np)
    rw [← e] at this
    exact this
end
theorem lk1 {k : Str} {v : V} {r : List (Str × V)} : List.lookup k ((k, v) :: r) = some v := by simp only [List.lookup, beq_self_eq_true k]
theorem lk2 {k g : Str} {v : V} {r : List (Str × V)} (h : (k == g) = false) : List.lookup k ((g, v) :: r) = List.lookup k r := by simp only [List.lookup, h]
section
variable {P : Program} {w : World} {K : PySem.W.Frag} {mg : Str → Option Value} {base : Heap} {CP : Addr}
/-! ### parts -/
def pF (n b m : V) : List (Str × V) := [("name", n), ("back", b), ("moves", m)]
theorem pF_name (n b m : V) : (pF n b m).lookup ("name" : Str) = some n := lk1
theorem pF_back (n b m : V) : (pF n b m).lookup ("back" : Str) = some b := (lk2 (by decide +kernel)).trans lk1
theorem pF_moves (n b m : V) : (pF n b m).lookup ("moves" : Str) = some m := (lk2 (by decide +kernel)).trans ((lk2 (by decide +kernel)).trans lk1)
theorem pF_new (n b m : V) : putF "moves" m (putF "back" b (putF "name" n [])) = pF n b m := by
  show putF "moves" m (if (("name" : Str) = "back") then _ else (("name" : Str), n) :: putF "back" b []) = _
  rw [if_neg (by decide +kernel)]
  show (if (("name" : Str) = "moves") then _ else (("name" : Str), n) :: putF "moves" m [(("back" : Str), b)]) = _
  rw [if_neg (by decide +kernel)]
  show (("name" : Str), n) :: (if (("back" : Str) = "moves") then _ else (("back" : Str), b) :: putF "moves" m []) = _
  rw [if_neg (by decide +kernel)]
  rfl
/-- the class of parts as the walk asks of it -/
structure PTxt (K : PySem.W.Frag) (C : Addr) : Prop where
  cl : Cls K C
  nN : NoAttr K C "name"
  nB : NoAttr K C "back"
  nM : NoAttr K C "moves"
abbrev s_Part_init : Stmt := inClass (top 18) 0
theorem sc_Part_init : FnScope ["self", "name", "back", "moves"] ["self", "name", "back", "moves"] (defScope s_Part_init) := ⟨rfl, rfl, rfl, by decide +kernel, rfl, by decide +kernel, by decide +kernel⟩

def spPart (CP : Addr) : Sp := fun vs H Q _ => ∃ (p dx : Addr) (n b m : V), vs = [.ref p, n, b, m] ∧ H p = some (.ins CP dx []) ∧ Q .non (upd (upd (upd H p (.ins CP dx [("name", n)])) p (.ins CP dx [("name", n), ("back", b)])) p (.ins CP dx (pF n b m)))
theorem ok_Part_init {f : Addr} {fd : FuncData} (F : Fun K "__init__" "Part.__init__" s_Part_init f fd) (W : PTxt K CP) : FnOk P w K mg base CX0 1 f fd ["self", "name", "back", "moves"] (spPart CP) := by
  refine F.ok sc_Part_init (fun vs H Q E h => ?_) (fun cdv A outer s H vs Q E hr h => ?_)
  · obtain ⟨p, dx, n, b, m, rfl, _⟩ := h; rfl
  · obtain ⟨p, dx, n, b, m, rfl, hp, q⟩ := h
    refine ⟨_, (pss_cons (ps_fld (pv 0) (pv 1) rfl)
    (pss_cons (ps_fld (pv 0) (pv 2) rfl)
    (pss_one (ps_fld (pv 0) (pv 3) rfl)))), ?_⟩
    refine ⟨_, rfl, _, rfl, p, CP, dx, [], rfl, hp, W.cl, W.nN, (by show 0 < 1000; decide), ?_⟩
    refine ⟨_, rfl, _, rfl, p, CP, dx, _, rfl, upd_same, W.cl, W.nB, (by show 1 < 1000; decide), ?_⟩
    refine ⟨_, rfl, _, rfl, p, CP, dx, _, rfl, upd_same, W.cl, W.nM, (by show 2 < 1000; decide), ?_⟩
    have e1 : putF "name" n [] = [(("name" : Str), n)] := rfl
    have e2 : putF "back" b (putF "name" n []) = [(("name" : Str), n), (("back" : Str), b)] := by
      show (if (("name" : Str) = "back") then _ else (("name" : Str), n) :: putF "back" b []) = _
      rw [if_neg (by decide +kernel)]
      rfl
    rw [pF_new, e2, e1]
    exact q
/-! ### known_part -/
abbrev s_known_part : Stmt := top 21
theorem sc_known_part : FnScope ["moves", "place", "image"] ["moves"] (defScope s_known_part) := ⟨rfl, rfl, rfl, by decide +kernel, rfl, by decide +kernel, by decide +kernel⟩

/-- the pairs that move a place -/
def moved (g : List (Nat × Nat)) : List (Nat × Nat) := g.filter fun p => decide (p.1 ≠ p.2)
def spKnownPart (CP : Addr) : Sp := fun vs H Q _ => ∃ (d : Addr) (g : List (Nat × Nat)), vs = [.ref d] ∧ H d = some (.dK (natKV g)) ∧ (g.map Prod.fst).Nodup ∧ g.length ≤ 2000 ∧
  ∀ (p dx m : Addr) (H' : Hp), Same H H' → H p = none → H m = none → m ≠ p → H' p = some (.ins CP dx (pF (.str "") (.bl false) (.ref m))) → H' m = some (.dK (natKV (moved g))) → Q (.ref p) H'
theorem ok_known_part {f : Addr} {fd : FuncData} (F : Fun K "known_part" "known_part" s_known_part f fd) (M_Part : MakeOk P w K mg base CX0 1 CP "Part" ["self", "name", "back", "moves"] [] (spPart CP)) : FnOk P w K mg base CX0 3 f fd ["moves"] (spKnownPart CP) := by
  refine F.ok sc_known_part (fun vs H Q E h => ?_) (fun cdv A outer s H vs Q E hr h => ?_)
  · obtain ⟨d, g, rfl, _⟩ := h; rfl
  · obtain ⟨d, g, rfl, hd, hn, hl, q⟩ := h
    refine ⟨_, (pss_one (ps_ret (pe_mk' M_Part hr pass0 (pa_cons pe_str (pa_cons pe_bl (pa_cons (pe_lock (pe_dc (own := [("place", 1), ("image", 2)]) (tt := tTest (tOp rNe (tVar 1) (tVar 2))) (g := gTup K 2 (gCons (gName 1) (gCons (gName 2) gNil))) (tk := tVar 1) (tv := tVar 2) rfl sc_known_part.nd (pi_items (pv 0)) (blkOk_by (N := ["moves", "place", "image"]) (sc := defScope s_known_part) (by decide +kernel)) (fun _ _ _ _ _ => (pg_tup rfl (pgs_cons (pg_name (i := 1) sc_known_part.nd rfl (.inl rfl)) (pgs_cons (pg_name (i := 2) sc_known_part.nd rfl (.inl rfl)) pgs_nil)))) (fun _ _ _ _ _ => (by exact (pts_one (pt_cmpR op_ne (pv 1) (pv 2) (nomark _))))) (fun _ _ _ _ _ => by exact (pv 1)) (fun _ _ _ _ _ => by exact (pv 2)))) pa_nil)))))), ?_⟩
    refine ⟨d, _, hd, trivial, fun od => ?_⟩
    have nDd : ∀ D, (upd H d (.frz od (.dK (natKV g)))) D = none → D ≠ d := fun D nD e => by rw [e, upd_same] at nD; cases nD
    refine ⟨_, rfl, d, od, natKV g, rfl, upd_same, fun D nD => ?_⟩
    have hDd := nDd D nD
    have nDH : H D = none := by rw [upd_ne hDd] at nD; exact nD
    refine dc_walk (walk_items (d := d) (o := od) (kvs := natKV g)) (fun i H1 => Same (upd H d (.frz od (.dK (natKV g)))) H1 ∧ H1 D = some (.dK (natKV (moved (g.take i))))) ⟨same_upd nD, upd_same⟩ (fun i H1 _ ⟨s1, _⟩ => s1 _ _ upd_same) ?_ ?_
    · rintro i y H1 H2 hi ⟨s1, hD⟩ ⟨T, x1, x2, rfl, nT, rfl, f1, f2⟩
      rw [natKV_len] at hi
      obtain ⟨ab, hab⟩ : ∃ ab, g[i]? = some ab := ⟨_, List.getElem?_eq_getElem hi⟩
      obtain ⟨a, b⟩ := ab
      have ek : (natKV g)[i]? = some (Sum.inl (a : Int), nv b) := by unfold natKV; rw [List.getElem?_map, hab]; rfl
      have f1 : ((natKV g)[i]?.map fun kv => kV kv.1) = some x1 := f1
      have f2 : ((natKV g)[i]?.map Prod.snd) = some x2 := f2
      rw [ek] at f1 f2
      have e1 : x1 = V.int (a : Int) := (Option.some.inj f1).symm
      have e2 : x2 = nv b := (Option.some.inj f2).symm
      subst e1
      subst e2
      have DT : D ≠ T := ne_of_none hD nT
      have s2 : Same (upd H d (.frz od (.dK (natKV g)))) (upd H1 T (.tup [V.int (a : Int), nv b])) := mutS s1 (s1.free nT)
      refine ⟨T, _, rfl, SqT.of upd_same, rfl, _, _, rfl, _, _, rfl, rfl, rfl, ?_⟩
      refine ⟨_, rfl, _, rfl, rfl, _, rfl, ?_⟩
      have et : g.take (i + 1) = g.take i ++ [(a, b)] := by rw [List.take_add_one, hab]; rfl
      by_cases c : a = b
      · have e : (!decide (V.int (a : Int) = nv b)) = false := by rw [decide_eq_true (by rw [c]; rfl)]; rfl
        rw [e]
        refine iteF ⟨s2, ?_⟩
        rw [upd_ne DT, hD, et]
        unfold moved
        rw [List.filter_append, List.filter_cons_of_neg (by simp [c]), List.filter_nil, List.append_nil]
      · have e : (!decide (V.int (a : Int) = nv b)) = true := by rw [decide_eq_false (fun z => c (by have := V.int.inj z; omega))]; rfl
        rw [e]
        refine iteT ⟨_, rfl, _, rfl, natKV (moved (g.take i)), Sum.inl (a : Int), rfl, by rw [upd_ne DT]; exact hD, ?_, mutS s2 nD, ?_⟩
        · rw [natKV_len]
          have l1 : (moved (g.take i)).length ≤ (g.take i).length := List.length_filter_le _ _
          rw [List.length_take] at l1
          exact small64 (by omega)
        · rw [upd_same, et]
          have hno : valV (natKV (moved (g.take i))) (Sum.inl (a : Int)) = none := by
            refine natKV_none fun hm => ?_
            obtain ⟨p, hp, ep⟩ := List.mem_map.mp hm
            have hp' := (List.mem_filter.mp hp).1
            have eg : g = g.take i ++ (a, b) :: g.drop (i + 1) := by
              obtain ⟨hlt, ex⟩ := List.getElem?_eq_some_iff.mp hab
              rw [← ex, ← List.drop_eq_getElem_cons hlt, List.take_append_drop]
            rw [eg, List.map_append, List.map_cons] at hn
            exact (List.nodup_append.mp hn).2.2 p.1 (List.mem_map.mpr ⟨p, hp', rfl⟩) a List.mem_cons_self ep
          rw [putK_new _ hno]
          unfold moved
          rw [List.filter_append, List.filter_cons_of_pos (by simp [c]), List.filter_nil, natKV_append]
          rfl
    · rintro H1 ⟨s1, hD⟩
      rw [natKV_len, List.take_length] at hD
      refine ⟨s1 _ _ upd_same, ?_⟩
      have sx : Same H (upd H1 d (.dK (natKV g))) := fun b u hb => by
        by_cases c : b = d
        · rw [c, upd_same, ← hd, ← c, hb]
        · rw [upd_ne c]
          exact s1 b u (by rw [upd_ne c]; exact hb)
      intro p dx np ndx nex
      have nDp : D ≠ p := fun e => by rw [← e, upd_ne hDd, hD] at np; cases np
      have nDdx : D ≠ dx := fun e => by rw [← e, upd_ne hDd, hD] at ndx; cases ndx
      refine ⟨p, dx, _, _, _, rfl, upd_same, rfl, ?_⟩
      refine q p dx D _ ?_ (sx.free np) nDH nDp upd_same ?_
      · intro b u hb
        have hb' := sx b u hb
        have bp : b ≠ p := ne_of_none hb' np
        have bdx : b ≠ dx := ne_of_none hb' ndx
        rw [upd_ne bp, upd_ne bp, upd_ne bp, upd_ne bp, upd_ne bdx]
        exact hb'
      · rw [upd_ne nDp, upd_ne nDp, upd_ne nDp, upd_ne nDp, upd_ne nDdx, upd_ne hDd]
        exact hD
end
section
variable {P : Program} {w : World} {K : PySem.W.Frag} {mg : Str → Option Value} {base : Heap} {CP : Addr}
/-! ### one_form of one hole -/
abbrev s_one_form : Stmt := top 20
theorem sc_one_form : FnScope ["parts", "kinds", "row", "part", "moves", "turns", "back"] ["parts", "kinds"] (defScope s_one_form) := ⟨rfl, rfl, rfl, by decide +kernel, rfl, by decide +kernel, by decide +kernel⟩

def spOneH (K : PySem.W.Frag) (CP : Addr) : Sp := fun vs H Q _ => ∃ (a b p m : Addr) (t kd : Str), vs = [.ref a, .ref b] ∧ t.length ≠ 0 ∧ t.length ≤ 1000 ∧ SqL K H a [.ref p] ∧ (∃ dx, H p = some (.ins CP dx (pF (.str t) (.bl false) (.ref m)))) ∧ H b = some (.dK [(Sum.inr t, .str kd)]) ∧
  ∀ (o p2 m2 : Addr) (H' : Hp), Same H H' → H o = none → H p2 = none → H m2 = none → H' o = some (.lst [.ref p2]) → (∃ dx, H' p2 = some (.ins CP dx (pF (.str t) (.bl false) (.ref m2)))) → H' m2 = some (.dK []) → Q (.ref o) H'
theorem ok_one_formH {f : Addr} {fd : FuncData} (F : Fun K "one_form" "one_form" s_one_form f fd) (W : PTxt K CP) (M_Part : MakeOk P w K mg base CX0 1 CP "Part" ["self", "name", "back", "moves"] [] (spPart CP)) : FnOk P w K mg base CX0 3 f fd ["parts", "kinds"] (spOneH K CP) := by
  refine F.ok sc_one_form (fun vs H Q E h => ?_) (fun cdv A outer s H vs Q E hr h => ?_)
  · obtain ⟨a, b, p, m, t, kd, rfl, _⟩ := h; rfl
  · obtain ⟨a, b, p, m, t, kd, rfl, ht, htl, hS, ⟨dx, h1⟩, h2, q⟩ := h
    have hu := hu_of hr
    refine ⟨_, (pss_cons (ps_set (i := 2) sc_one_form.nd rfl (.inl rfl) (pe_lst pa_nil))
    (pss_cons (ps_for PassesOwn.never rfl (pi_list (pv 0)) (pg_name (i := 3) sc_one_form.nd rfl (.inl rfl)) (pss_cons (ps_if (pt_not (pt_truth (pe_fld (pv 3) rfl) (by intro _; rfl))) (pss_cons (ps_set (i := 4) sc_one_form.nd rfl (.inl rfl) (pe_fld (pv 3) rfl))
    (pss_cons (ps_if (PW.pt (pw_and (pt_truth (pv 2) (by intro _; rfl)) (pw_and1 (pt_not (pt_truth (pe_fld (pe_ix ix_list (pv 2) (pe_un un_neg pe_int) (fun _ _ => rfl)) rfl) (by intro _; rfl)))))) pss_never pss_nil)
    (pss_cons (ps_if (pt_truth (pv 4) (by intro _; rfl)) (pss_one (ps_expr (pe_bm PySem.F.plainAttrs_list PySem.F.slot_list_append PySem.F.type_list_append mt_append (pv 2) (pa_cons (pe_mk' M_Part hr pass0 (pa_cons pe_str (pa_cons pe_bl (pa_cons (pv 4) pa_nil)))) pa_nil)))) pss_nil)
    (pss_one ps_continue)))) pss_nil)
    (pss_cons (ps_set (i := 5) sc_one_form.nd rfl (.inl rfl) (pe_cmpR op_eq (pe_dget hu (pv 1) (pe_fld (pv 3) rfl) (fun _ _ => rfl)) pe_str (nomark _)))
    (pss_cons (ps_set (i := 6) sc_one_form.nd rfl (.inl rfl) (pe_and (pe_fld (pv 3) rfl) (pe_one (pv 5))))
    (pss_one (ps_if (PW.pt (pw_and (pt_truth (pv 2) (by intro _; rfl)) (pw_and (pt_cmpR op_eq (pe_fld (pe_ix ix_list (pv 2) (pe_un un_neg pe_int) (fun _ _ => rfl)) rfl) (pe_fld (pv 3) rfl) (nomark _)) (pw_and1 (pt_not (PW.pt (pw_and (pt_truth (pv 5) (by intro _; rfl)) (pw_and1 (pt_cmpR op_eq (pe_fld (pe_ix ix_list (pv 2) (pe_un un_neg pe_int) (fun _ _ => rfl)) rfl) (pv 6) (nomark _)))))))))) (pss_one (ps_expr (pe_bm0 PySem.F.plainAttrs_list PySem.F.slot_list_pop PySem.F.type_list_pop mt_pop (pv 2)))) (pss_one (ps_expr (pe_bm PySem.F.plainAttrs_list PySem.F.slot_list_append PySem.F.type_list_append mt_append (pv 2) (pa_cons (pe_mk' M_Part hr pass0 (pa_cons (pe_fld (pv 3) rfl) (pa_cons (pv 6) (pa_cons pe_dnewK pa_nil)))) pa_nil))))))))))
    (pss_one (ps_ret (pv 2))))), ?_⟩
    refine ⟨Nat.zero_le _, fun o no => ?_⟩
    have s1 : Same H (upd H o (.lst [])) := same_upd no
    have ho : (upd H o (.lst [])) o = some (.lst []) := upd_same
    generalize upd H o (.lst []) = H1 at s1 ho ⊢
    refine ⟨_, rfl, a, rfl, ⟨_, s1.seq hS⟩, for_list (K := K) (a := a) (xs := [.ref p]) (fun i σ H' => ∃ v3 v4 v5 v6 : Option V, σ = [some (.ref a), some (.ref b), some (.ref o), v3, v4, v5, v6] ∧ Same H H' ∧
        ((i = 0 ∧ H' o = some (.lst [])) ∨ (1 ≤ i ∧ ∃ p2 m2, H p2 = none ∧ H m2 = none ∧ H' o = some (.lst [.ref p2]) ∧ (∃ dx, H' p2 = some (.ins CP dx (pF (.str t) (.bl false) (.ref m2)))) ∧ H' m2 = some (.dK []))))
      ⟨none, none, none, none, rfl, s1, .inl ⟨rfl, ho⟩⟩ (fun i σ H' _ ⟨_, _, _, _, _, s, _⟩ => s.seq hS) ?_ ?_⟩
    · rintro i y σ H' hi ⟨v3, v4, v5, v6, rfl, s2, hc⟩
      have i0 : i = 0 := by
        have := (List.getElem?_eq_some_iff.mp hi).1
        rw [List.length_singleton] at this
        omega
      subst i0
      cases hi
      have ho' : H' o = some (.lst []) := by
        rcases hc with ⟨_, h⟩ | ⟨h, _⟩
        · exact h
        · omega
      have h1' := s2 _ _ h1
      have h2' := s2 _ _ h2
      refine ⟨_, rfl, p, CP, dx, _, _, rfl, h1', W.cl, W.nN, pF_name _ _ _, true, ⟨by rw [sizeLine_eq]; omega, by symm; simp; omega⟩, iteF ?_⟩
      -- turns
      refine ⟨_, rfl, _, rfl, p, CP, dx, _, _, rfl, h1', W.cl, W.nN, pF_name _ _ _, b, V.str kd, rfl, .inl ⟨_, Sum.inr t, .of h2', rfl, by show _ = valV [(Sum.inr t, V.str kd)] (Sum.inr t); unfold valV; simp⟩, ?_⟩
      refine ⟨rfl, ?_⟩
      refine ⟨_, rfl, p, CP, dx, _, _, rfl, h1', W.cl, W.nB, pF_back _ _ _, false, rfl, iteF ?_⟩
      refine ⟨_, rfl, false, .inl ⟨[], SqL.of ho', rfl⟩, iteF (iteF ?_)⟩
      refine ⟨_, rfl, .inl ⟨rfl, _, SqL.of ho'⟩, _, rfl, p, CP, dx, _, _, rfl, h1', W.cl, W.nN, pF_name _ _ _, _, rfl, fun m2 nm2 => ?_⟩
      have sm := same_upd (o := .dK []) nm2
      have hm4 : (upd H' m2 (.dK [])) m2 = some (.dK []) := upd_same
      have ho4 := sm _ _ ho'
      generalize upd H' m2 (.dK []) = H4 at sm hm4 ho4 ⊢
      have s4 := s2.trans sm
      intro x dx2 nx ndx nex
      have ox : o ≠ x := ne_of_none ho4 nx
      have odx : o ≠ dx2 := ne_of_none ho4 ndx
      have mx : m2 ≠ x := ne_of_none hm4 nx
      have mdx : m2 ≠ dx2 := ne_of_none hm4 ndx
      refine ⟨x, dx2, _, _, _, rfl, upd_same, rfl, ?_⟩
      have s5 : Same H (upd (upd (upd (upd (upd H4 dx2 (.own x)) x (.ins CP dx2 [])) x (.ins CP dx2 [("name", .str t)])) x (.ins CP dx2 [("name", .str t), ("back", .bl false)])) x (.ins CP dx2 (pF (.str t) (.bl false) (.ref m2)))) := fun c u hc => by
        have hc' := s4 c u hc
        have cx : c ≠ x := ne_of_none hc' nx
        have cd : c ≠ dx2 := ne_of_none hc' ndx
        rw [upd_ne cx, upd_ne cx, upd_ne cx, upd_ne cx, upd_ne cd]
        exact hc'
      have ho5 : (upd (upd (upd (upd (upd H4 dx2 (.own x)) x (.ins CP dx2 [])) x (.ins CP dx2 [("name", .str t)])) x (.ins CP dx2 [("name", .str t), ("back", .bl false)])) x (.ins CP dx2 (pF (.str t) (.bl false) (.ref m2)))) o = some (.lst []) := by
        rw [upd_ne ox, upd_ne ox, upd_ne ox, upd_ne ox, upd_ne odx]
        exact ho4
      have hm5 : (upd (upd (upd (upd (upd H4 dx2 (.own x)) x (.ins CP dx2 [])) x (.ins CP dx2 [("name", .str t)])) x (.ins CP dx2 [("name", .str t), ("back", .bl false)])) x (.ins CP dx2 (pF (.str t) (.bl false) (.ref m2)))) m2 = some (.dK []) := by
        rw [upd_ne mx, upd_ne mx, upd_ne mx, upd_ne mx, upd_ne mdx]
        exact hm4
      have hx5 : (upd (upd (upd (upd (upd H4 dx2 (.own x)) x (.ins CP dx2 [])) x (.ins CP dx2 [("name", .str t)])) x (.ins CP dx2 [("name", .str t), ("back", .bl false)])) x (.ins CP dx2 (pF (.str t) (.bl false) (.ref m2)))) x = some (.ins CP dx2 (pF (.str t) (.bl false) (.ref m2))) := upd_same
      refine ⟨o, _, _, rfl, rfl, ho5, by show 0 < sizeLine; decide, ?_⟩
      generalize upd (upd (upd (upd (upd H4 dx2 (.own x)) x (.ins CP dx2 [])) x (.ins CP dx2 [("name", .str t)])) x (.ins CP dx2 [("name", .str t), ("back", .bl false)])) x (.ins CP dx2 (pF (.str t) (.bl false) (.ref m2))) = H5 at s5 ho5 hm5 hx5 ⊢
      have om : m2 ≠ o := fun e' => by rw [e', ho5] at hm5; cases hm5
      exact ⟨_, _, _, _, rfl, mutS s5 no, .inr ⟨Nat.le_refl _, x, m2, s4.free nx, s2.free nm2, upd_same, ⟨dx2, by rw [upd_ne ox.symm]; exact hx5⟩, by rw [upd_ne om]; exact hm5⟩⟩
    · rintro σ H' ⟨v3, v4, v5, v6, rfl, s2, hc⟩
      rcases hc with ⟨h, _⟩ | ⟨_, p2, m2, n1, n2, g1, g2, g3⟩
      · cases h
      · exact ⟨_, rfl, q o p2 m2 H' s2 no n1 n2 g1 g2 g3⟩
end
/-- the truth of what an expression tells -/
def tTruT (K : PySem.W.Frag) (t : TE) : TT := fun σ H Q => t σ H fun x H1 => ∃ k, TruV K x H1 k ∧ Q k H1
section
variable {P : Program} {w : World} {K : PySem.W.Frag} {mg : Str → Option Value} {base : Heap} {CP CW : Addr}
/-! ### Word.__init__ of one hole -/
structure WdTxt (K : PySem.W.Frag) (CW : Addr) : Prop where
  cl : Cls K CW
  nP : NoAttr K CW "parts"
  nK : NoAttr K CW "_kinds"
abbrev s_Word_init : Stmt := inClass (top 19) 0
theorem sc_Word_init : FnScope ["self", "parts", "kinds", "names", "part", "name"] ["self", "parts", "kinds"] (defScope s_Word_init) := ⟨rfl, rfl, rfl, by decide +kernel, rfl, by decide +kernel, by decide +kernel⟩

/-- the word of one use of the hole t of kind kd -/
def wdF (o d : Addr) : List (Str × V) := [("parts", .ref o), ("_kinds", .ref d)]
def WordH (CW CP : Addr) (H : Hp) (x : Addr) (t kd : Str) : Prop := ∃ dx o p2 dx2 m2 d, H x = some (.ins CW dx (wdF o d)) ∧ H o = some (.lst [.ref p2]) ∧ H p2 = some (.ins CP dx2 (pF (.str t) (.bl false) (.ref m2))) ∧ H m2 = some (.dK []) ∧ H d = some (.dK [(Sum.inr t, .str kd)])
def spWdH (K : PySem.W.Frag) (CP CW : Addr) : Sp := fun vs H Q _ => ∃ (x dx a b p m : Addr) (t kd : Str), vs = [.ref x, .ref a, .ref b] ∧ H x = some (.ins CW dx []) ∧ t.length ≠ 0 ∧ t.length ≤ 1000 ∧ SqL K H a [.ref p] ∧ (∃ dx, H p = some (.ins CP dx (pF (.str t) (.bl false) (.ref m)))) ∧ H b = some (.dK [(Sum.inr t, .str kd)]) ∧
  ∀ H' : Hp, (∀ b o, H b = some o → b ≠ x → H' b = some o) → WordH CW CP H' x t kd → Q .non H'
theorem ok_Word_initH {f : Addr} {fd : FuncData} (F : Fun K "__init__" "Word.__init__" s_Word_init f fd) (T : Blt mg) (W : WdTxt K CW) (WP : PTxt K CP) (D_one_form : DefOk P w K mg base CX0 3 "one_form" ["parts", "kinds"] [] (spOneH K CP)) :
    FnOk P w K mg base CX0 4 f fd ["self", "parts", "kinds"] (spWdH K CP CW) := by
  refine F.ok sc_Word_init (fun vs H Q E h => ?_) (fun cdv A outer s H vs Q E hr h => ?_)
  · obtain ⟨x, dx, a, b, p, m, t, kd, rfl, _⟩ := h; rfl
  · obtain ⟨x, dx, a, b, p, m, t, kd, rfl, hx, ht, htl, hS, hP, hb, q⟩ := h
    have hu := hu_of hr
    refine ⟨_, (pss_cons (ps_fld (pv 0) (pe_d D_one_form hr pass0 (pa_cons (pv 1) (pa_cons (pv 2) pa_nil))) rfl)
    (pss_cons (ps_setLc (i := 3) (own := [("part", 4)]) (tt := tTruT K (tFld K (tVar 4) "name")) (te := tFld K (tVar 4) "name") rfl sc_Word_init.nd rfl rfl (sw_true rfl rfl rfl (by decide +kernel)) (pi_list (pe_fld (pv 0) rfl)) (blkOk_by (N := ["self", "parts", "kinds", "names", "part", "name"]) (sc := defScope s_Word_init) (by decide +kernel)) (fun _ _ _ _ _ => (pg_name (i := 4) sc_Word_init.nd rfl (.inl rfl))) (fun _ _ _ _ _ => (by exact (pts_one (pt_truth (pe_fld (pv 4) rfl) (by intro _; rfl))))) (fun _ _ _ _ _ => by exact (pe_fld (pv 4) rfl)))
    (pss_one (ps_fld (pv 0) (pe_dc (own := [("name", 5)]) (tt := tYes) (tk := tVar 5) (tv := tDGet (tVar 2) (tVar 5)) rfl sc_Word_init.nd (pi_list (pe_sortedSetS rfl (by rfl) T.sorted (by rfl) T.set (pv 3))) (blkOk_by (N := ["self", "parts", "kinds", "names", "part", "name"]) (sc := defScope s_Word_init) (by decide +kernel)) (fun _ _ _ _ _ => (pg_name (i := 5) sc_Word_init.nd rfl (.inl rfl))) (fun _ _ _ _ _ => pts_nil) (fun _ _ _ _ _ => by exact (pv 5)) (fun _ _ _ _ _ => by exact (pe_dget hu (pv 2) (pv 5) (fun _ _ => rfl)))) rfl)))), ?_⟩
    refine ⟨_, rfl, _, rfl, a, b, p, m, t, kd, rfl, ht, htl, hS, hP, hb, fun o p2 m2 H1 s1 no np2 nm2 ho ⟨dx2, hp2⟩ hm2 => ?_⟩
    have hx1 := s1 _ _ hx
    refine ⟨_, rfl, x, CW, dx, [], rfl, hx1, W.cl, W.nP, (by show 0 < 1000; decide), ?_⟩
    have e1 : putF "parts" (.ref o) [] = [(("parts" : Str), V.ref o)] := rfl
    rw [e1]
    have ox : o ≠ x := fun e => by rw [e, hx] at no; cases no
    have px : p2 ≠ x := fun e => by rw [e, hx] at np2; cases np2
    have mx : m2 ≠ x := fun e => by rw [e, hx] at nm2; cases nm2
    have s2 : ∀ b u, H b = some u → b ≠ x → (upd H1 x (.ins CW dx [("parts", .ref o)])) b = some u := fun b u h ne => by rw [upd_ne ne]; exact s1 _ _ h
    have hx2 : (upd H1 x (.ins CW dx [("parts", .ref o)])) x = some (.ins CW dx [("parts", .ref o)]) := upd_same
    have ho2 : (upd H1 x (.ins CW dx [("parts", .ref o)])) o = some (.lst [.ref p2]) := by rw [upd_ne ox]; exact ho
    have hp3 : (upd H1 x (.ins CW dx [("parts", .ref o)])) p2 = some (.ins CP dx2 (pF (.str t) (.bl false) (.ref m2))) := by rw [upd_ne px]; exact hp2
    have hm3 : (upd H1 x (.ins CW dx [("parts", .ref o)])) m2 = some (.dK []) := by rw [upd_ne mx]; exact hm2
    have bx : b ≠ x := fun e => by rw [e, hx] at hb; cases hb
    have hb2 := s2 _ _ hb bx
    generalize upd H1 x (.ins CW dx [("parts", .ref o)]) = H2 at s2 hx2 ho2 hp3 hm3 hb2 ⊢
    refine ⟨_, rfl, x, CW, dx, _, _, rfl, hx2, W.cl, W.nP, lk1, o, rfl, ⟨_, SqL.of ho2⟩, fun D nD => ?_⟩
    refine lc_list (K := K) (a := o) (xs := [.ref p2]) (fun i H3 => Same H2 H3 ∧ H3 D = some (.lst ((List.replicate i t).map V.str))) ⟨same_upd nD, upd_same⟩ (fun i H3 _ ⟨s3, _⟩ => SqL.of (s3 _ _ ho2)) ?_ ?_
    · rintro i y H3 hi ⟨s3, h3⟩
      have i0 : i = 0 := by
        have := (List.getElem?_eq_some_iff.mp hi).1
        rw [List.length_singleton] at this
        omega
      subst i0
      cases hi
      refine ⟨rfl, _, rfl, p2, CP, dx2, _, _, rfl, s3 _ _ hp3, WP.cl, WP.nN, pF_name _ _ _, true, ⟨by rw [sizeLine_eq]; omega, by symm; simp; omega⟩, iteT ?_⟩
      refine ⟨_, rfl, p2, CP, dx2, _, _, rfl, s3 _ _ hp3, WP.cl, WP.nN, pF_name _ _ _, _, h3, by show 0 < sizeLine; decide, mutS s3 nD, upd_same⟩
    · rintro H3 ⟨s3, h3⟩
      refine ⟨_, rfl, D, [t], rfl, SqL.of h3, by show 1 < 63; decide, fun zs Z z1 z2 z3 z4 nZ => ?_⟩
      have ez : zs = [t] := by
        match zs, z2, z3, z4 with
        | [], _, h, _ => exact absurd ((h t).mpr (by simp)) (by simp)
        | [y], _, h, _ => rw [List.mem_singleton.mp ((h y).mp (by simp))]
        | _ :: _ :: _, _, _, h => simp at h
      subst ez
      have sZ : Same H2 (upd H3 Z (.lst ([t].map V.str))) := s3.trans (same_upd nZ)
      have hZ : (upd H3 Z (.lst ([t].map V.str))) Z = some (.lst ([t].map V.str)) := upd_same
      generalize upd H3 Z (.lst ([t].map V.str)) = H4 at sZ hZ ⊢
      refine ⟨Z, rfl, ⟨_, SqL.of hZ⟩, fun D2 nD2 => ?_⟩
      refine dc_walk (walk_list (K := K) (a := Z) (xs := [t].map V.str)) (H1 := H4) (fun i H5 => Same H4 H5 ∧ H5 D2 = some (.dK (if i = 0 then [] else [(Sum.inr t, V.str kd)]))) ⟨same_upd nD2, upd_same⟩ (fun i H5 _ ⟨s5, _⟩ => SqL.of (s5 _ _ hZ)) ?_ ?_
      · rintro i y H5 H6 hi ⟨s5, h5⟩ hy
        obtain ⟨e, hy⟩ := hy
        subst e
        have i0 : i = 0 := by
          have := (List.getElem?_eq_some_iff.mp hy).1
          simp at this
          omega
        subst i0
        have ey : y = V.str t := (Option.some.inj hy).symm
        subst ey
        have hb5 := s5 _ _ (sZ _ _ hb2)
        exact ⟨rfl, yesT ⟨_, rfl, _, rfl, _, rfl, b, V.str kd, rfl, .inl ⟨_, Sum.inr t, .of hb5, rfl, by show _ = valV [(Sum.inr t, V.str kd)] (Sum.inr t); unfold valV; simp⟩, [], Sum.inr t, rfl, h5, by show 0 < sizeLine; decide, mutS s5 nD2, upd_same⟩⟩
      · rintro H5 ⟨s5, h5⟩
        have sE := sZ.trans s5
        refine ⟨_, rfl, x, CW, dx, _, rfl, sE _ _ hx2, W.cl, W.nK, (by show 1 < 1000; decide), q _ (fun b u hb ne => ?_) ?_⟩
        · rw [upd_ne ne]
          exact sE _ _ (s2 _ _ hb ne)
        · have D2x : D2 ≠ x := fun e => by rw [e, sZ _ _ hx2] at nD2; cases nD2
          exact ⟨dx, o, p2, dx2, m2, D2, upd_same, by rw [upd_ne ox]; exact sE _ _ ho2, by rw [upd_ne px]; exact sE _ _ hp3, by rw [upd_ne mx]; exact sE _ _ hm3, by rw [upd_ne D2x]; exact h5⟩
end
section
variable {P : Program} {w : World} {K : PySem.W.Frag} {mg : Str → Option Value} {base : Heap} {C : Addr}
abbrev s_NoName_init : Stmt := inClass (top 4) 0
theorem sc_NoName_init : FnScope ["self", "name"] ["self", "name"] (defScope s_NoName_init) := ⟨rfl, rfl, rfl, by decide +kernel, rfl, by decide +kernel, by decide +kernel⟩

theorem ok_NoName_init {f : Addr} {fd : FuncData} (F : Fun K "__init__" "NoName.__init__" s_NoName_init f fd) (T : ErrC K C) (hno : PySem.W.findIn K (.ref C) "name" = some none) : FnOk P w K mg base CX0 1 f fd ["self", "name"] (spErr C "name") := by
  refine F.ok sc_NoName_init (fun vs H Q E h => ?_) (fun cdv A outer s H vs Q E hr h => ?_)
  · obtain ⟨a, v, rfl, _⟩ := h; rfl
  · obtain ⟨a, v, rfl, ha, q⟩ := h
    exact ⟨_, pss_one (ps_ost (pv 0) (pv 1)), _, rfl, _, rfl, a, C, rfl, T.oex, hno, .inl ⟨ha, fun dx n ne => q dx n ne⟩⟩
abbrev s_NoKind_init : Stmt := inClass (top 5) 0
theorem sc_NoKind_init : FnScope ["self", "kind"] ["self", "kind"] (defScope s_NoKind_init) := ⟨rfl, rfl, rfl, by decide +kernel, rfl, by decide +kernel, by decide +kernel⟩

theorem ok_NoKind_init {f : Addr} {fd : FuncData} (F : Fun K "__init__" "NoKind.__init__" s_NoKind_init f fd) (T : ErrC K C) (hno : PySem.W.findIn K (.ref C) "kind" = some none) : FnOk P w K mg base CX0 1 f fd ["self", "kind"] (spErr C "kind") := by
  refine F.ok sc_NoKind_init (fun vs H Q E h => ?_) (fun cdv A outer s H vs Q E hr h => ?_)
  · obtain ⟨a, v, rfl, _⟩ := h; rfl
  · obtain ⟨a, v, rfl, ha, q⟩ := h
    exact ⟨_, pss_one (ps_ost (pv 0) (pv 1)), _, rfl, _, rfl, a, C, rfl, T.oex, hno, .inl ⟨ha, fun dx n ne => q dx n ne⟩⟩
abbrev s_NoMost_init : Stmt := inClass (top 6) 0
theorem sc_NoMost_init : FnScope ["self", "most"] ["self", "most"] (defScope s_NoMost_init) := ⟨rfl, rfl, rfl, by decide +kernel, rfl, by decide +kernel, by decide +kernel⟩

theorem ok_NoMost_init {f : Addr} {fd : FuncData} (F : Fun K "__init__" "NoMost.__init__" s_NoMost_init f fd) (T : ErrC K C) (hno : PySem.W.findIn K (.ref C) "most" = some none) : FnOk P w K mg base CX0 1 f fd ["self", "most"] (spErr C "most") := by
  refine F.ok sc_NoMost_init (fun vs H Q E h => ?_) (fun cdv A outer s H vs Q E hr h => ?_)
  · obtain ⟨a, v, rfl, _⟩ := h; rfl
  · obtain ⟨a, v, rfl, ha, q⟩ := h
    exact ⟨_, pss_one (ps_ost (pv 0) (pv 1)), _, rfl, _, rfl, a, C, rfl, T.oex, hno, .inl ⟨ha, fun dx n ne => q dx n ne⟩⟩
abbrev s_NoRing_init : Stmt := inClass (top 3) 0
theorem sc_NoRing_init : FnScope ["self", "index"] ["self", "index"] (defScope s_NoRing_init) := ⟨rfl, rfl, rfl, by decide +kernel, rfl, by decide +kernel, by decide +kernel⟩

theorem ok_NoRing_init {f : Addr} {fd : FuncData} (F : Fun K "__init__" "NoRing.__init__" s_NoRing_init f fd) (T : ErrC K C) (hno : PySem.W.findIn K (.ref C) "index" = some none) : FnOk P w K mg base CX0 1 f fd ["self", "index"] (spErr C "index") := by
  refine F.ok sc_NoRing_init (fun vs H Q E h => ?_) (fun cdv A outer s H vs Q E hr h => ?_)
  · obtain ⟨a, v, rfl, _⟩ := h; rfl
  · obtain ⟨a, v, rfl, ha, q⟩ := h
    exact ⟨_, pss_one (ps_ost (pv 0) (pv 1)), _, rfl, _, rfl, a, C, rfl, T.oex, hno, .inl ⟨ha, fun dx n ne => q dx n ne⟩⟩
end
section
variable {P : Program} {w : World} {K : PySem.W.Frag} {mg : Str → Option Value} {base : Heap} {CP CW CN CK CM : Addr}
/-! ### Word.hole -/
abbrev s_Word_hole : Stmt := inClass (top 19) 1
theorem sc_Word_hole : FnScope ["name", "kind", "most"] ["name", "kind", "most"] (defScope s_Word_hole) := ⟨rfl, rfl, rfl, by decide +kernel, rfl, by decide +kernel, by decide +kernel⟩

def optV (m : Option Int) : V := match m with | none => .non | some i => .int i
/-- the kind as the word tells it -/
def kdOf (kd : Str) (m : Option Int) : Str := match m with | none => kd | some i => (Str.empty ++ ("swaps " : Str)) ++ Str.ofString (toString i)
def spHole (K : PySem.W.Frag) (CP CW CN CK CM : Addr) : Sp := fun vs H Q E => ∃ (t kd : Str) (m : Option Int), vs = [.str t, .str kd, optV m] ∧ t.length ≤ 1000 ∧ Good t ∧ (∀ i, m = some i → i.natAbs < 10 ^ 20) ∧
  ((isNm t = false ∧ ∀ (d : Addr) (H' : Hp), Same H H' → H' d = none → E (.ref CN) (some d) (upd H' d (.xd [("name", .str t)]))) ∨
    (isNm t = true ∧ isKd kd = false ∧ ∀ (d : Addr) (H' : Hp), Same H H' → H' d = none → E (.ref CK) (some d) (upd H' d (.xd [("kind", .str kd)]))) ∨
    (isNm t = true ∧ isKd kd = true ∧ (∃ i, m = some i ∧ (i < 0 ∨ kd ≠ "swaps")) ∧ ∀ (d : Addr) (H' : Hp), Same H H' → H' d = none → E (.ref CM) (some d) (upd H' d (.xd [("most", optV m)]))) ∨
    (isNm t = true ∧ isKd kd = true ∧ (∀ i, m = some i → 0 ≤ i ∧ kd = "swaps") ∧ ∀ (x : Addr) (H' : Hp), Same H H' → H x = none → WordH CW CP H' x t (kdOf kd m) → Q (.ref x) H'))
theorem isKd_in (x : Str) : (!inV (V.str x) [V.str "wire", V.str "swaps", V.str "mirror"]) = !isKd x := by
  show (!(eqV (V.str "wire") (V.str x) || (eqV (V.str "swaps") (V.str x) || (eqV (V.str "mirror") (V.str x) || false)))) = !isKd x
  have k : ∀ a : Str, eqV (V.str a) (V.str x) = (x == a) := fun a => by
    show (a == x) = (x == a)
    by_cases c : a = x
    · rw [c]
    · rw [beq_eq_false_iff_ne.mpr c, beq_eq_false_iff_ne.mpr (fun h => c h.symm)]
  rw [k, k, k, Bool.or_false]
  rfl
theorem log2_small {n : Nat} (h : n < 10 ^ 20) : n.log2 < 1920 := by
  by_cases c : n = 0
  · rw [c]; decide
  · have : n.log2 < 70 := (Nat.log2_lt c).mpr (Nat.lt_of_lt_of_le h (by decide))
    omega
theorem int_tx_len {i : Int} (h : i.natAbs < 10 ^ 20) : (Str.ofString (toString i)).length ≤ 21 := by
  rw [PySem.ofString_length]
  exact int_text_length_le10 (k := 20) (by decide) h
theorem mk_hole {td : TE} {σ : L2.St} {H1 : Hp} {Q : VK} {t kd' : Str} (h0 : σ[0]? = some (some (.str t))) (ht : t.length ≠ 0) (htl : t.length ≤ 1000)
    (hd : ∀ (H2 : Hp) (R : VK), (∀ (d : Addr) (H3 : Hp), Same H2 H3 → H2 d = none → H3 d = some (.dK [(Sum.inr t, .str kd')]) → R (.ref d) H3) → td σ H2 R)
    (q : ∀ (x : Addr) (H' : Hp), Same H1 H' → H1 x = none → WordH CW CP H' x t kd' → Q (.ref x) H') :
    (tMake CW (spWdH K CP CW) [] E0 (tCons (tLst (tCons (tMake CP (spPart CP) [] E0 (tCons (tVar 0) (tCons (tC (V.bl false)) (tCons tDNewK tNil)))) tNil)) (tCons td tNil))) σ H1 Q := by
  refine ⟨_, h0, fun m nm => ?_⟩
  have sm := same_upd (o := .dK []) nm
  have hm : (upd H1 m (.dK [])) m = some (.dK []) := upd_same
  generalize upd H1 m (.dK []) = H2 at sm hm ⊢
  intro p dp np ndp nep
  have mp : m ≠ p := ne_of_none hm np
  have mdp : m ≠ dp := ne_of_none hm ndp
  refine ⟨p, dp, _, _, _, rfl, upd_same, rfl, ?_⟩
  have s3 : Same H2 (upd (upd (upd (upd (upd H2 dp (.own p)) p (.ins CP dp [])) p (.ins CP dp [("name", .str t)])) p (.ins CP dp [("name", .str t), ("back", .bl false)])) p (.ins CP dp (pF (.str t) (.bl false) (.ref m)))) := fun c u hc => by
    have cx : c ≠ p := ne_of_none hc np
    have cd : c ≠ dp := ne_of_none hc ndp
    rw [upd_ne cx, upd_ne cx, upd_ne cx, upd_ne cx, upd_ne cd]
    exact hc
  have hp : (upd (upd (upd (upd (upd H2 dp (.own p)) p (.ins CP dp [])) p (.ins CP dp [("name", .str t)])) p (.ins CP dp [("name", .str t), ("back", .bl false)])) p (.ins CP dp (pF (.str t) (.bl false) (.ref m)))) p = some (.ins CP dp (pF (.str t) (.bl false) (.ref m))) := upd_same
  generalize upd (upd (upd (upd (upd H2 dp (.own p)) p (.ins CP dp [])) p (.ins CP dp [("name", .str t)])) p (.ins CP dp [("name", .str t), ("back", .bl false)])) p (.ins CP dp (pF (.str t) (.bl false) (.ref m))) = H3 at s3 hp ⊢
  refine ⟨by show 1 ≤ sizeLine; decide, fun L nL => ?_⟩
  have s4 : Same H1 (upd H3 L (.lst [.ref p])) := (sm.trans s3).trans (same_upd nL)
  have hp4 := same_upd (o := .lst [.ref p]) nL _ _ hp
  have hL : (upd H3 L (.lst [.ref p])) L = some (.lst [.ref p]) := upd_same
  generalize upd H3 L (.lst [.ref p]) = H4 at s4 hp4 hL ⊢
  refine hd _ _ fun d H5 s5 nd hd5 => ?_
  intro x dx nx ndx nex
  have s6 : Same H5 (upd (upd H5 dx (.own x)) x (.ins CW dx [])) := (same_upd ndx).trans (same_upd (by rw [upd_ne nex.symm]; exact nx))
  refine ⟨x, dx, L, d, p, m, t, kd', rfl, upd_same, ht, htl, SqL.of (s6 _ _ (s5 _ _ hL)), ⟨dp, s6 _ _ (s5 _ _ hp4)⟩, s6 _ _ hd5, fun H' k hW => ⟨rfl, ?_⟩⟩
  have s7 : Same H5 H' := Same.made nx ndx k
  exact q x H' ((s4.trans s5).trans s7) ((s4.trans s5).free nx) hW
theorem isNm_ne {t : Str} (h : isNm t = true) : t.length ≠ 0 := by
  unfold isNm at h
  intro e
  rw [e] at h
  exact Bool.noConfusion h
set_option maxHeartbeats 1000000 in
theorem ok_Word_hole {f aT : Addr} {fd : FuncData} (F : FunD K "hole" "Word.hole" (defArgs s_Word_hole) (defBody s_Word_hole) (defScope s_Word_hole) [.str "wire"] [("most", .non)] f fd) (T : Blt mg) (gT : mg "KINDS" = some (.ref aT)) (hT : ∀ H : Hp, SqT K H aT [.str "wire", .str "swaps", .str "mirror"])
    (D_is_name : DefOk P w K mg base CX0 1 "is_name" ["text"] [] spIsName) (M_Part : MakeOk P w K mg base CX0 1 CP "Part" ["self", "name", "back", "moves"] [] (spPart CP)) (M_Word : MakeOk P w K mg base CX0 4 CW "Word" ["self", "parts", "kinds"] [] (spWdH K CP CW))
    (D_NoName : ErrOk P w K mg base CX0 1 CN "NoName" "name" "name") (D_NoKind : ErrOk P w K mg base CX0 1 CK "NoKind" "kind" "kind") (D_NoMost : ErrOk P w K mg base CX0 1 CM "NoMost" "most" "most") :
    FnOk P w K mg base (L2.CX P w) 6 f fd ["name", "kind", "most"] (spHole K CP CW CN CK CM) := by
  refine F.ok sc_Word_hole (fun vs H Q E h => ?_) (fun cdv A outer s H vs Q E hr h => ?_)
  · obtain ⟨t, kd, m, rfl, _⟩ := h; rfl
  · obtain ⟨t, kd, m, rfl, htl, hG, hm, h⟩ := h
    refine ⟨_, (pss_cons (ps_if (pt_not (pt_truth (pe_d D_is_name hr pass0 (pa_cons (pv 0) pa_nil)) (by intro _; rfl))) (pss_one (ps_raise rfl (takes_of rfl rfl rfl rfl) (pmk_err D_NoName hr pass0 (pv 0)))) pss_nil)
    (pss_cons (ps_if (pt_cmpR op_notIn_seq (pv 1) (pe_glob (v := .ref aT) rfl gT rfl) rfl) (pss_one (ps_raise rfl (takes_of rfl rfl rfl rfl) (pmk_err D_NoKind hr pass0 (pv 1)))) pss_nil)
    (pss_cons (ps_if (pt_cmpR op_isN (pv 2) pe_non (nomark _)) (pss_one (ps_ret (pe_mk' M_Word hr pass0 (pa_cons (pe_lst (pa_cons (pe_mk' M_Part hr pass0 (pa_cons (pv 0) (pa_cons pe_bl (pa_cons pe_dnewK pa_nil)))) pa_nil)) (pa_cons (pe_disp (pps_cons (pv 0) (pv 1) pps_nil) (by rfl) (by rfl) (fun z => by cases z) (by decide)) pa_nil))))) pss_nil)
    (pss_cons (ps_if (PW.pt (pw_or (pt_cmpR op_lt (pv 2) pe_int (nomark _)) (pw_or1 (pt_cmpR op_ne (pv 1) pe_str (nomark _))))) (pss_one (ps_raise rfl (takes_of rfl rfl rfl rfl) (pmk_err D_NoMost hr pass0 (pv 2)))) pss_nil)
    (pss_one (ps_ret (pe_mk' M_Word hr pass0 (pa_cons (pe_lst (pa_cons (pe_mk' M_Part hr pass0 (pa_cons (pv 0) (pa_cons pe_bl (pa_cons pe_dnewK pa_nil)))) pa_nil)) (pa_cons (pe_disp (pps_cons (pv 0) (pe_joined (.cons pe_str (.cons (pe_fmt (pv 2)) .nil))) pps_nil) (by rfl) (by rfl) (fun z => by cases z) (by decide)) pa_nil))))))))), ?_⟩
    refine ⟨_, rfl, t, rfl, htl, hG, fun H1 s1 => ?_⟩
    cases hn : isNm t with
    | false =>
      refine ⟨_, rfl, iteT ⟨_, rfl, fun d nd => ?_⟩⟩
      rcases h with ⟨_, q⟩ | ⟨h, _⟩ | ⟨h, _⟩ | ⟨h, _⟩
      · exact q d H1 s1 nd
      · rw [hn] at h; cases h
      · rw [hn] at h; cases h
      · rw [hn] at h; cases h
    | true =>
      have t0 := isNm_ne hn
      refine ⟨_, rfl, iteF ?_⟩
      refine ⟨_, rfl, aT, _, rfl, .inr (hT H1), rfl, rfl, _, rfl, ?_⟩
      rw [if_pos rfl, isKd_in]
      cases hk : isKd kd with
      | false =>
        refine iteT ⟨_, rfl, fun d nd => ?_⟩
        rcases h with ⟨h, _⟩ | ⟨_, _, q⟩ | ⟨_, h, _⟩ | ⟨_, h, _⟩
        · rw [hn] at h; cases h
        · exact q d H1 s1 nd
        · rw [hk] at h; cases h
        · rw [hk] at h; cases h
      | true =>
        refine iteF ?_
        cases m with
        | none =>
          refine ⟨_, rfl, rfl, _, rfl, iteT ?_⟩
          rcases h with ⟨h, _⟩ | ⟨_, h, _⟩ | ⟨_, _, ⟨i, h, _⟩, _⟩ | ⟨_, _, _, q⟩
          · rw [hn] at h; cases h
          · rw [hk] at h; cases h
          · cases h
          · refine mk_hole (kd' := kd) rfl t0 htl (fun H2 R r p np => ?_) (fun x H' s2 nx hW => q x H' (s1.trans s2) (s1.free nx) hW)
            refine ⟨_, rfl, _, rfl, upd_same, [(Sum.inr t, .str kd)], rfl, (by show 1 ≤ 15; decide), ?_⟩
            rw [upd_upd]
            exact r p _ (same_upd np) np upd_same
        | some i =>
          refine ⟨_, rfl, rfl, _, rfl, iteF ?_⟩
          refine ⟨_, rfl, _, _, rfl, rfl, _, rfl, ?_⟩
          by_cases c : i < 0
          · refine decT c (iteT ⟨_, rfl, fun d nd => ?_⟩)
            rcases h with ⟨h, _⟩ | ⟨_, h, _⟩ | ⟨_, _, _, q⟩ | ⟨_, _, h, _⟩
            · rw [hn] at h; cases h
            · rw [hk] at h; cases h
            · exact q d H1 s1 nd
            · have := (h i rfl).1
              omega
          · refine decF c ⟨_, rfl, rfl, _, rfl, ?_⟩
            by_cases c2 : kd = "swaps"
            · have e2 : (!decide (V.str kd = V.str "swaps")) = false := by rw [decide_eq_true (by rw [c2])]; rfl
              rw [e2]
              refine iteF ?_
              rcases h with ⟨h, _⟩ | ⟨_, h, _⟩ | ⟨_, _, ⟨j, e, h⟩, q⟩ | ⟨_, _, _, q⟩
              · rw [hn] at h; cases h
              · rw [hk] at h; cases h
              · cases e
                rcases h with h | h
                · omega
                · exact absurd c2 h
              · refine mk_hole (kd' := kdOf kd (some i)) rfl t0 htl (fun H2 R r p np => ?_) (fun x H' s2 nx hW => q x H' (s1.trans s2) (s1.free nx) hW)
                refine ⟨_, rfl, ?_⟩
                have l0 : Str.empty.length = 0 := rfl
                have l6 : (("swaps " : Str)).length = 6 := by decide +kernel
                have li := int_tx_len (hm i rfl)
                refine ⟨_, rfl, ?_, _, rfl, .inr ⟨i, rfl, log2_small (hm i rfl), _, rfl, ?_, ?_⟩⟩
                · rw [app_len, l0, l6, sizeLine_eq]
                  omega
                · rw [app_len, app_len, l0, l6, sizeLine_eq]
                  omega
                refine ⟨upd_same, [(Sum.inr t, .str (kdOf kd (some i)))], rfl, (by show 1 ≤ 15; decide), ?_⟩
                rw [upd_upd]
                exact r p _ (same_upd np) np upd_same
            · have e2 : (!decide (V.str kd = V.str "swaps")) = true := by rw [decide_eq_false (fun z => c2 (V.str.inj z))]; rfl
              rw [e2]
              refine iteT ⟨_, rfl, fun d nd => ?_⟩
              rcases h with ⟨h, _⟩ | ⟨_, h, _⟩ | ⟨_, _, _, q⟩ | ⟨_, _, h, _⟩
              · rw [hn] at h; cases h
              · rw [hk] at h; cases h
              · exact q d H1 s1 nd
              · exact absurd (h i rfl).2 c2
end
section
variable {P : Program} {w : World} {K : PySem.W.Frag} {mg : Str → Option Value} {base : Heap} {CP CW CN CK CM : Addr}
/-! ### _law_no_hole -/
abbrev s_l_no_hole : Stmt := top 41
theorem sc_l_no_hole : FnScope ["_law_name_here", "_law_kind_here", "_law_bound", "e"] ["_law_name_here", "_law_kind_here", "_law_bound"] (defScope s_l_no_hole) := ⟨rfl, rfl, rfl, by decide +kernel, rfl, by decide +kernel, by decide +kernel⟩

/-- what is due for a name, a kind and a bound -/
def dueOf (t kd : Str) (m : Option Int) : List V :=
  if isNm t = false then [.str "name", .str t] else if isKd kd = false then [.str "kind", .str kd] else
    match m with
    | none => [.str "taken"]
    | some i => if i < 0 ∨ kd ≠ "swaps" then [.str "most", .int i] else [.str "taken"]
def gHole : List V → List V → List V := fun vs zs => vs ++ zs
def spNoHole : Sp := fun vs H Q _ => ∃ (t kd : Str) (m : Option Int), vs = [.str t, .str kd, optV m] ∧ t.length ≤ 1000 ∧ Good t ∧ (∀ i, m = some i → i.natAbs < 10 ^ 20) ∧
  ∀ (T : Addr) (H' : Hp), Same H H' → H T = none → H' T = some (.tup (dueOf t kd m)) → Q (.ref T) H'
theorem ok_l_no_hole {f : Addr} {fd : FuncData} (F : Fun K "_law_no_hole" "_law_no_hole" s_l_no_hole f fd) (gW : mg "Word" = some (.ref CW)) (eN : ErrC K CN) (eK : ErrC K CK) (eM : ErrC K CM)
    (gN : mg "NoName" = some (.ref CN)) (gK : mg "NoKind" = some (.ref CK)) (gM : mg "NoMost" = some (.ref CM))
    (nN : PySem.W.findIn K (.ref CN) "name" = some none) (nK : PySem.W.findIn K (.ref CK) "kind" = some none) (nM : PySem.W.findIn K (.ref CM) "most" = some none)
    (eNN : PySem.W.exmOne K (.ref CN) (.ref CN) = some true) (eKN : PySem.W.exmOne K (.ref CK) (.ref CN) = some false) (eKK : PySem.W.exmOne K (.ref CK) (.ref CK) = some true)
    (eMN : PySem.W.exmOne K (.ref CM) (.ref CN) = some false) (eMK : PySem.W.exmOne K (.ref CM) (.ref CK) = some false) (eMM : PySem.W.exmOne K (.ref CM) (.ref CM) = some true)
    (S_Word_hole : StatKOk P w K mg base (L2.CX P w) 6 CW "hole" ["name", "kind", "most"] 2 ["most"] gHole (spHole K CP CW CN CK CM)) :
    FnOk P w K mg base CX0 8 f fd ["_law_name_here", "_law_kind_here", "_law_bound"] spNoHole := by
  refine F.ok sc_l_no_hole (fun vs H Q E h => ?_) (fun cdv A outer s H vs Q E hr h => ?_)
  · obtain ⟨t, kd, m, rfl, _⟩ := h; rfl
  · obtain ⟨t, kd, m, rfl, htl, hG, hm, q⟩ := h
    refine ⟨_, pss_cons (ps_try_manyA (tb := fun W => tDrop (tStatK CW 2 (["most"] : List Str).length (spHole K CP CW CN CK CM) gHole (WE W) (tC (.ref CW)) (tCons (tVar 0) (tCons (tVar 1) tNil)) (tCons (tVar 2) tNil))) (W0 := fun _ _ _ _ => False)
        (l := [(.ref CN, 3, fun a cls d => tRet (tTup (tCons (tC (.str "name")) (tCons (tXf a cls d CN "name" (tVar 3)) tNil)))), (.ref CK, 3, fun a cls d => tRet (tTup (tCons (tC (.str "kind")) (tCons (tXf a cls d CK "kind" (tVar 3)) tNil)))), (.ref CM, 3, fun a cls d => tRet (tTup (tCons (tC (.str "most")) (tCons (tXf a cls d CM "most" (tVar 3)) tNil))))])
        rfl rfl sc_l_no_hole.nd takes0 (fun W pn xe tk _ => pss_one (ps_expr (by exact (pe_statK (n := 2) (ks := ["most"]) S_Word_hole hr (fun σ => passAt tk σ) (pe_glob (v := .ref _) rfl gW rfl) (pa_cons (pv 0) (pa_cons (pv 1) pa_nil)) (pk_cons (pv 2) pk_nil)))))
        (.cons ⟨rfl, by decide, Or.inl gN⟩ rfl rfl (fun a oe cls d pn hz hf => pss_one (ps_ret (by exact (pe_tup (pa_cons pe_str (pa_cons (pe_xf eN.xf nN hz hf (pv 3)) pa_nil))))))
        (.cons ⟨rfl, by decide, Or.inl gK⟩ rfl rfl (fun a oe cls d pn hz hf => pss_one (ps_ret (by exact (pe_tup (pa_cons pe_str (pa_cons (pe_xf eK.xf nK hz hf (pv 3)) pa_nil))))))
        (.cons ⟨rfl, by decide, Or.inl gM⟩ rfl rfl (fun a oe cls d pn hz hf => pss_one (ps_ret (by exact (pe_tup (pa_cons pe_str (pa_cons (pe_xf eM.xf nM hz hf (pv 3)) pa_nil)))))) .nil))))
      (pss_one (ps_ret (pe_tup (pa_cons pe_str pa_nil)))), ?_⟩
    refine ⟨rfl, _, rfl, _, rfl, _, rfl, rfl, rfl, t, kd, m, rfl, htl, hG, hm, ?_⟩
    by_cases c1 : isNm t = false
    · have e : dueOf t kd m = [.str "name", .str t] := by unfold dueOf; rw [if_pos c1]
      rw [e] at q
      refine .inl ⟨c1, fun d H1 s1 nd => ⟨true, eNN, fun _ a0 _ => ?_, fun z => Bool.noConfusion z⟩⟩
      refine ⟨_, rfl, rfl, rfl, d, _, _, rfl, upd_same, lk1, ?_⟩
      exact ⟨by show 2 ≤ sizeLine; decide, fun T nT => q T _ (s1.trans ((same_upd nd).trans (same_upd nT))) ((s1.trans (same_upd nd)).free nT) upd_same⟩
    have c1' : isNm t = true := by cases h : isNm t with | true => rfl | false => exact absurd h c1
    by_cases c2 : isKd kd = false
    · have e : dueOf t kd m = [.str "kind", .str kd] := by unfold dueOf; rw [if_neg c1, if_pos c2]
      rw [e] at q
      refine .inr (.inl ⟨c1', c2, fun d H1 s1 nd => ⟨false, eKN, (fun z => Bool.noConfusion z), fun _ => ⟨true, eKK, fun _ a0 _ => ?_, fun z => Bool.noConfusion z⟩⟩⟩)
      refine ⟨_, rfl, rfl, rfl, d, _, _, rfl, upd_same, lk1, ?_⟩
      exact ⟨by show 2 ≤ sizeLine; decide, fun T nT => q T _ (s1.trans ((same_upd nd).trans (same_upd nT))) ((s1.trans (same_upd nd)).free nT) upd_same⟩
    have c2' : isKd kd = true := by cases h : isKd kd with | true => rfl | false => exact absurd h c2
    by_cases c3 : ∃ i, m = some i ∧ (i < 0 ∨ kd ≠ "swaps")
    · have e : dueOf t kd m = [.str "most", optV m] := by
        obtain ⟨i, rfl, h⟩ := c3
        unfold dueOf
        rw [if_neg c1, if_neg c2]
        show (if i < 0 ∨ kd ≠ "swaps" then _ else _) = _
        rw [if_pos h]
        rfl
      rw [e] at q
      refine .inr (.inr (.inl ⟨c1', c2', c3, fun d H1 s1 nd => ⟨false, eMN, (fun z => Bool.noConfusion z), fun _ => ⟨false, eMK, (fun z => Bool.noConfusion z), fun _ => ⟨true, eMM, fun _ a0 _ => ?_, fun z => Bool.noConfusion z⟩⟩⟩⟩))
      refine ⟨_, rfl, rfl, rfl, d, _, _, rfl, upd_same, lk1, ?_⟩
      exact ⟨by show 2 ≤ sizeLine; decide, fun T nT => q T _ (s1.trans ((same_upd nd).trans (same_upd nT))) ((s1.trans (same_upd nd)).free nT) upd_same⟩
    · have e : dueOf t kd m = [.str "taken"] := by
        unfold dueOf
        rw [if_neg c1, if_neg c2]
        cases m with
        | none => rfl
        | some i =>
          show (if i < 0 ∨ kd ≠ "swaps" then _ else _) = _
          rw [if_neg (fun h => c3 ⟨i, rfl, h⟩)]
      rw [e] at q
      refine .inr (.inr (.inr ⟨c1', c2', fun i hi => ?_, fun x H1 s1 nx hW => ?_⟩))
      · subst hi
        by_cases a : i < 0
        · exact absurd ⟨i, rfl, .inl a⟩ c3
        · by_cases b : kd = "swaps"
          · exact ⟨by omega, b⟩
          · exact absurd ⟨i, rfl, .inr b⟩ c3
      · exact ⟨by show 1 ≤ sizeLine; decide, fun T nT => q T _ (s1.trans (same_upd nT)) (s1.free nT) upd_same⟩
end
section
variable {P : Program} {w : World} {K : PySem.W.Frag} {mg : Str → Option Value} {base : Heap} {CP CW : Addr}
/-! ### words as they lie -/
/-- a part: its name ("" for a known wire), whether it is a way back, its moves -/
structure PD where
  nm : Str
  bk : Bool
  mv : List (Nat × Nat)
def PartAt (CP : Addr) (H : Hp) (p : Addr) (q : PD) : Prop := ∃ dx m, H p = some (.ins CP dx (pF (.str q.nm) (.bl q.bk) (.ref m))) ∧ H m = some (.dK (natKV q.mv))
structure PartsAt (CP : Addr) (H : Hp) (as : List Addr) (ds : List PD) : Prop where
  len : as.length = ds.length
  at_ : ∀ (i : Nat) (p : Addr) (q : PD), as[i]? = some p → ds[i]? = some q → PartAt CP H p q
def kV2 (ks : List (Str × Str)) : List (Key × V) := ks.map fun k => (Sum.inr k.1, .str k.2)
def WordAt (CP CW : Addr) (H : Hp) (x : Addr) (ds : List PD) (ks : List (Str × Str)) : Prop := ∃ dx o d as, H x = some (.ins CW dx (wdF o d)) ∧ H o = some (.lst (as.map V.ref)) ∧ H d = some (.dK (kV2 ks)) ∧ PartsAt CP H as ds
theorem PartAt.mono {H H' : Hp} {p : Addr} {q : PD} (s : Same H H') (h : PartAt CP H p q) : PartAt CP H' p q := by
  obtain ⟨dx, m, h1, h2⟩ := h
  exact ⟨dx, m, s _ _ h1, s _ _ h2⟩
theorem PartsAt.mono {H H' : Hp} {as : List Addr} {ds : List PD} (s : Same H H') (h : PartsAt CP H as ds) : PartsAt CP H' as ds := ⟨h.len, fun i p q h1 h2 => (h.at_ i p q h1 h2).mono s⟩
theorem WordAt.mono {H H' : Hp} {x : Addr} {ds : List PD} {ks : List (Str × Str)} (s : Same H H') (h : WordAt CP CW H x ds ks) : WordAt CP CW H' x ds ks := by
  obtain ⟨dx, o, d, as, h1, h2, h3, h4⟩ := h
  exact ⟨dx, o, d, as, s _ _ h1, s _ _ h2, s _ _ h3, h4.mono s⟩
theorem WordH.at_ {H : Hp} {x : Addr} {t kd : Str} (h : WordH CW CP H x t kd) : WordAt CP CW H x [⟨t, false, []⟩] [(t, kd)] := by
  obtain ⟨dx, o, p2, dx2, m2, d, h1, h2, h3, h4, h5⟩ := h
  refine ⟨dx, o, d, [p2], h1, h2, h5, rfl, fun i p q e1 e2 => ?_⟩
  match i, e1, e2 with
  | 0, e1, e2 =>
    cases e1
    cases e2
    exact ⟨dx2, m2, h3, h4⟩
  | i + 1, e1, _ => cases e1
theorem wdF_parts (o d : Addr) : (wdF o d).lookup ("parts" : Str) = some (.ref o) := lk1
theorem wdF_kinds (o d : Addr) : (wdF o d).lookup ("_kinds" : Str) = some (.ref d) := (lk2 (by decide +kernel)).trans lk1
abbrev s_Word_holes : Stmt := inClass (top 19) 5
theorem sc_Word_holes : FnScope ["self"] ["self"] (defScope s_Word_holes) := ⟨rfl, rfl, rfl, by decide +kernel, rfl, by decide +kernel, by decide +kernel⟩

def spHoles (CP CW : Addr) : Sp := fun vs H Q _ => ∃ (x : Addr) (ds : List PD) (ks : List (Str × Str)), vs = [.ref x] ∧ WordAt CP CW H x ds ks ∧ ∀ (o : Addr) (H' : Hp), Same H H' → H o = none → H' o = some (.lst (ks.map fun k => V.str k.1)) → Q (.ref o) H'
theorem ok_Word_holes {f : Addr} {fd : FuncData} (F : Fun K "holes" "Word.holes" s_Word_holes f fd) (T : Blt mg) (W : WdTxt K CW) : FnOk P w K mg base CX0 1 f fd ["self"] (spHoles CP CW) := by
  refine F.ok sc_Word_holes (fun vs H Q E h => ?_) (fun cdv A outer s H vs Q E hr h => ?_)
  · obtain ⟨x, ds, ks, rfl, _⟩ := h; rfl
  · obtain ⟨x, ds, ks, rfl, ⟨dx, o, d, as, h1, h2, h3, h4⟩, q⟩ := h
    refine ⟨_, (pss_one (ps_ret (pe_callTy (call_list_dK rfl) (by rfl) T.list PyProof.Rows.boot_list (pa_cons (pe_fld (pv 0) rfl) pa_nil)))), ?_⟩
    refine ⟨_, rfl, x, CW, dx, _, _, rfl, h1, W.cl, W.nK, wdF_kinds _ _, d, _, rfl, h3, fun l nl => ?_⟩
    refine q l _ (same_upd nl) nl ?_
    rw [upd_same, show (kV2 ks).map (fun kv => kV kv.1) = ks.map fun k => V.str k.1 from by unfold kV2; rw [List.map_map]; rfl]
abbrev s_Word_kinds : Stmt := inClass (top 19) 6
theorem sc_Word_kinds : FnScope ["self"] ["self"] (defScope s_Word_kinds) := ⟨rfl, rfl, rfl, by decide +kernel, rfl, by decide +kernel, by decide +kernel⟩

def spKinds (CP CW : Addr) : Sp := fun vs H Q _ => ∃ (x : Addr) (ds : List PD) (ks : List (Str × Str)), vs = [.ref x] ∧ WordAt CP CW H x ds ks ∧ ∀ (o : Addr) (H' : Hp), Same H H' → H o = none → H' o = some (.dK (kV2 ks)) → Q (.ref o) H'
theorem ok_Word_kinds {f : Addr} {fd : FuncData} (F : Fun K "kinds" "Word.kinds" s_Word_kinds f fd) (T : Blt mg) (W : WdTxt K CW) : FnOk P w K mg base CX0 1 f fd ["self"] (spKinds CP CW) := by
  refine F.ok sc_Word_kinds (fun vs H Q E h => ?_) (fun cdv A outer s H vs Q E hr h => ?_)
  · obtain ⟨x, ds, ks, rfl, _⟩ := h; rfl
  · obtain ⟨x, ds, ks, rfl, ⟨dx, o, d, as, h1, h2, h3, h4⟩, q⟩ := h
    refine ⟨_, (pss_one (ps_ret (pe_callTy call_dictD (by rfl) T.dict PyProof.Rows.boot_dict (pa_cons (pe_fld (pv 0) rfl) pa_nil)))), ?_⟩
    refine ⟨_, rfl, x, CW, dx, _, _, rfl, h1, W.cl, W.nK, wdF_kinds _ _, d, _, rfl, .of h3, fun l nl => ?_⟩
    exact q l _ (same_upd nl) nl upd_same
abbrev s_Word_len : Stmt := inClass (top 19) 15
theorem sc_Word_len : FnScope ["self", "part"] ["self"] (defScope s_Word_len) := ⟨rfl, rfl, rfl, by decide +kernel, rfl, by decide +kernel, by decide +kernel⟩

/-- how many uses there are -/
def usesL (ds : List PD) : List PD := ds.filter fun q => decide (q.nm.length ≠ 0)
def spWLen (CP CW : Addr) : Sp := fun vs H Q _ => ∃ (x : Addr) (ds : List PD) (ks : List (Str × Str)), vs = [.ref x] ∧ WordAt CP CW H x ds ks ∧ ds.length ≤ 10000 ∧ (∀ q ∈ ds, q.nm.length ≤ 1000) ∧ ∀ H' : Hp, Same H H' → Q (.int (usesL ds).length) H'
theorem ok_Word_len {f : Addr} {fd : FuncData} (F : Fun K "__len__" "Word.__len__" s_Word_len f fd) (T : Blt mg) (W : WdTxt K CW) (WP : PTxt K CP) : FnOk P w K mg base CX0 1 f fd ["self"] (spWLen CP CW) := by
  refine F.ok sc_Word_len (fun vs H Q E h => ?_) (fun cdv A outer s H vs Q E hr h => ?_)
  · obtain ⟨x, ds, ks, rfl, _⟩ := h; rfl
  · obtain ⟨x, ds, ks, rfl, ⟨dx, o, d, as, h1, h2, h3, h4⟩, hl, hn, q⟩ := h
    refine ⟨_, (pss_one (ps_ret (pe_callB call_len_seq (by rfl) T.len PySem.boot_len (pa_cons (pe_lc (own := [("part", 1)]) (tt := tTruT K (tFld K (tVar 1) "name")) (te := tVar 1) rfl sc_Word_len.nd (pi_list (pe_fld (pv 0) rfl)) (blkOk_by (N := ["self", "part"]) (sc := defScope s_Word_len) (by decide +kernel)) (fun _ _ _ _ _ => (pg_name (i := 1) sc_Word_len.nd rfl (.inl rfl))) (fun _ _ _ _ _ => (by exact (pts_one (pt_truth (pe_fld (pv 1) rfl) (by intro _; rfl))))) (fun _ _ _ _ _ => by exact (pv 1))) pa_nil)))), ?_⟩
    refine ⟨_, rfl, x, CW, dx, _, _, rfl, h1, W.cl, W.nP, wdF_parts _ _, o, rfl, ⟨_, SqL.of h2⟩, fun D nD => ?_⟩
    refine lc_list (K := K) (a := o) (xs := as.map V.ref) (fun i H1 => Same H H1 ∧ ∃ l, H1 D = some (.lst l) ∧ l.length = (usesL (ds.take i)).length) ⟨same_upd nD, [], upd_same, rfl⟩ (fun i H1 _ ⟨s1, _⟩ => SqL.of (s1 _ _ h2)) ?_ ?_
    · rintro i y H1 hi ⟨s1, l, hD, hll⟩
      obtain ⟨p, hp, rfl⟩ : ∃ p, as[i]? = some p ∧ y = V.ref p := by
        rw [List.getElem?_map] at hi
        cases e : as[i]? with
        | none => rw [e] at hi; cases hi
        | some p => rw [e] at hi; exact ⟨p, rfl, (Option.some.inj hi).symm⟩
      obtain ⟨qd, hq⟩ : ∃ qd, ds[i]? = some qd := ⟨_, List.getElem?_eq_getElem (by rw [← h4.len]; exact (List.getElem?_eq_some_iff.mp hp).1)⟩
      obtain ⟨dx2, m, g1, g2⟩ := h4.at_ i p qd hp hq
      have qn := hn qd (List.mem_of_getElem? hq)
      have tk : ds.take (i + 1) = ds.take i ++ [qd] := by rw [List.take_add_one, hq]; rfl
      have le : (usesL (ds.take i)).length ≤ ds.length := Nat.le_trans (List.length_filter_le _ _) (by rw [List.length_take]; omega)
      refine ⟨rfl, _, rfl, p, CP, dx2, _, _, rfl, s1 _ _ g1, WP.cl, WP.nN, pF_name _ _ _, decide (qd.nm.length ≠ 0), ⟨by rw [sizeLine_eq]; omega, ?_⟩, ?_⟩
      · by_cases c : qd.nm.length = 0 <;> simp [c]
      · by_cases c : qd.nm.length = 0
        · rw [decide_eq_false (fun h => h c)]
          refine iteF ⟨s1, l, hD, ?_⟩
          rw [tk]
          unfold usesL
          rw [List.filter_append, List.length_append, List.filter_cons_of_neg (by simp [c])]
          exact hll
        · rw [decide_eq_true c]
          refine iteT ⟨_, rfl, l, hD, by rw [hll]; exact small64 (by omega), mutS s1 nD, _, upd_same, ?_⟩
          rw [tk]
          unfold usesL
          rw [List.filter_append, List.length_append, List.length_append, List.filter_cons_of_pos (by simp [c])]
          show l.length + 1 = _
          rw [hll]
          rfl
    · rintro H1 ⟨s1, l, hD, hll⟩
      rw [List.length_map, h4.len, List.take_length] at hll
      refine ⟨D, _, rfl, .inl (SqL.of hD), ?_⟩
      rw [hll]
      exact q H1 s1
abbrev s_Word_named : Stmt := inClass (top 19) 7
theorem sc_Word_named : FnScope ["self", "part", "place"] ["self"] (defScope s_Word_named) := ⟨rfl, rfl, rfl, by decide +kernel, rfl, by decide +kernel, by decide +kernel⟩

/-- the places that the parts move, as they come -/
def keysL (ds : List PD) : List Nat := (ds.map fun q => q.mv.map Prod.fst).flatten
theorem keysL_more {ds : List PD} {i : Nat} {q : PD} (h : ds[i]? = some q) : keysL (ds.take (i + 1)) = keysL (ds.take i) ++ q.mv.map Prod.fst := by
  unfold keysL
  rw [List.take_add_one, h]
  simp
theorem keysL_le (ds : List PD) (i : Nat) : (keysL (ds.take i)).length ≤ (keysL ds).length := by
  have e : keysL ds = keysL (ds.take i) ++ keysL (ds.drop i) := by
    unfold keysL
    rw [← List.flatten_append, ← List.map_append, List.take_append_drop]
  rw [e, List.length_append]
  omega
def spNamed (CP CW : Addr) : Sp := fun vs H Q _ => ∃ (x : Addr) (ds : List PD) (ks : List (Str × Str)), vs = [.ref x] ∧ WordAt CP CW H x ds ks ∧ (keysL ds).length ≤ 62 ∧
  ∀ (o : Addr) (ns : List Int) (H' : Hp), Same H H' → H o = none → ns.Pairwise (· < ·) → (∀ k : Int, k ∈ ns ↔ ∃ a : Nat, a ∈ keysL ds ∧ k = a) → H' o = some (.lst (ns.map V.int)) → Q (.ref o) H'
theorem ok_Word_named {f : Addr} {fd : FuncData} (F : Fun K "named" "Word.named" s_Word_named f fd) (T : Blt mg) (W : WdTxt K CW) (WP : PTxt K CP) : FnOk P w K mg base CX0 1 f fd ["self"] (spNamed CP CW) := by
  refine F.ok sc_Word_named (fun vs H Q E h => ?_) (fun cdv A outer s H vs Q E hr h => ?_)
  · obtain ⟨x, ds, ks, rfl, _⟩ := h; rfl
  · obtain ⟨x, ds, ks, rfl, ⟨dx, o, d, as, h1, h2, h3, h4⟩, hl, q⟩ := h
    refine ⟨_, (pss_one (ps_ret (pe_callB (cr_sortedSet rfl) (by rfl) T.sorted (by decide +kernel) (pa_cons (pe_sc2 (own := [("part", 1), ("place", 2)]) (vb := [2]) (ka := tYes) (kb := tYes) (te := tVar 2) (wb := iKeys (tFld K (tVar 1) "moves")) rfl sc_Word_named.nd (pi_list (pe_fld (pv 0) rfl)) (blkOk_by (N := ["self", "part", "place"]) (sc := defScope s_Word_named) (by decide +kernel)) (by decide) (fun _ _ _ _ _ => (pg_name (i := 1) sc_Word_named.nd rfl (.inl rfl))) (fun _ _ _ _ _ => pts_nil) (fun _ _ _ _ _ => by exact (pi_keys (pe_fld (pv 1) rfl))) (fun _ _ _ _ _ => (pg_name (i := 2) sc_Word_named.nd rfl (.inl rfl))) (fun _ _ _ _ _ => pts_nil) (fun _ _ _ _ _ => by exact (pv 2))) pa_nil)))), ?_⟩
    refine ⟨_, rfl, x, CW, dx, _, _, rfl, h1, W.cl, W.nP, wdF_parts _ _, o, rfl, ⟨_, SqL.of h2⟩, fun D nD => ?_⟩
    refine out_list (K := K) (a := o) (xs := as.map V.ref) (fun i H1 => (∀ b u, H b = some u → H1 b = some u) ∧ ∃ S n, H1 D = some (SetO w D S n) ∧ n ≤ (keysL (ds.take i)).length ∧ ∀ k : Int, S k = true ↔ ∃ a : Nat, a ∈ keysL (ds.take i) ∧ k = a) ⟨same_upd nD, _, 0, upd_same, Nat.zero_le _, fun k => ⟨fun h => (Bool.noConfusion h), fun ⟨a, h, _⟩ => by cases h⟩⟩ (fun i H1 _ ⟨s1, _⟩ => SqL.of (s1 _ _ h2)) ?_ ?_
    · rintro i y H1 hi ⟨s1, S, n, hD, hn, hS⟩
      obtain ⟨p, hp, rfl⟩ : ∃ p, as[i]? = some p ∧ y = V.ref p := by
        rw [List.getElem?_map] at hi
        cases e : as[i]? with
        | none => rw [e] at hi; cases hi
        | some p => rw [e] at hi; exact ⟨p, rfl, (Option.some.inj hi).symm⟩
      obtain ⟨qd, hq⟩ : ∃ qd, ds[i]? = some qd := ⟨_, List.getElem?_eq_getElem (by rw [← h4.len]; exact (List.getElem?_eq_some_iff.mp hp).1)⟩
      obtain ⟨dx2, m, g1, g2⟩ := h4.at_ i p qd hp hq
      have km := keysL_more hq
      have kl := keysL_le ds (i + 1)
      have mD : m ≠ D := fun e => by rw [e, nD] at g2; cases g2
      have pm : p ≠ m := fun e => by rw [e, g2] at g1; cases g1
      refine ⟨rfl, yesT ?_⟩
      refine ⟨m, _, s1 _ _ g2, trivial, fun od => ?_⟩
      refine ⟨_, rfl, p, CP, dx2, _, _, rfl, by rw [upd_ne pm]; exact s1 _ _ g1, WP.cl, WP.nM, pF_moves _ _ _, m, od, rfl, .inl ⟨natKV qd.mv, upd_same, ?_⟩⟩
      refine in_walkS (w := w) (D := D) (d := m) (od := od) (u := .dK (natKV qd.mv)) (Nx := fun H1 => (∀ b u, H b = some u → H1 b = some u) ∧ ∃ S n, H1 D = some (SetO w D S n) ∧ n ≤ (keysL (ds.take (i + 1))).length ∧ ∀ k : Int, S k = true ↔ ∃ a : Nat, a ∈ keysL (ds.take (i + 1)) ∧ k = a) (walk_keys (d := m) (o := od) (kvs := natKV qd.mv)) (fun j H2 => (∀ b u, H b = some u → b ≠ m → H2 b = some u) ∧ H2 m = some (.frz od (.dK (natKV qd.mv))) ∧ ∃ S n, H2 D = some (SetO w D S n) ∧ n ≤ (keysL (ds.take i)).length + j ∧ ∀ k : Int, S k = true ↔ ∃ a : Nat, a ∈ keysL (ds.take i) ++ (qd.mv.map Prod.fst).take j ∧ k = a)
        ⟨fun b u hb ne => by rw [upd_ne ne]; exact s1 _ _ hb, upd_same, S, n, by rw [upd_ne mD.symm]; exact hD, hn, by rw [List.take_zero, List.append_nil]; exact hS⟩ (fun j H2 _ ⟨_, h, _⟩ => h) ?_ ?_
      · rintro j y H2 H3 hj ⟨s2, hm2, S2, n2, hD2, hn2, hS2⟩ ⟨rfl, k, v, hk, rfl⟩
        obtain ⟨ab, hab, rfl, rfl⟩ : ∃ ab : Nat × Nat, qd.mv[j]? = some ab ∧ k = Sum.inl (ab.1 : Int) ∧ v = nv ab.2 := by
          unfold natKV at hk
          rw [List.getElem?_map] at hk
          cases e : qd.mv[j]? with
          | none => rw [e] at hk; cases hk
          | some ab => rw [e] at hk; have := Option.some.inj hk; exact ⟨ab, rfl, (congrArg Prod.fst this).symm, (congrArg Prod.snd this).symm⟩
        have jl : j < qd.mv.length := (List.getElem?_eq_some_iff.mp hab).1
        have len1 : (keysL (ds.take i)).length + qd.mv.length ≤ 62 := by
          have := congrArg List.length km
          rw [List.length_append, List.length_map] at this
          omega
        refine ⟨rfl, yesT ⟨_, rfl, (ab.1 : Int), S2, n2, rfl, hD2, ?_, ?_⟩⟩
        · exact Nat.lt_of_lt_of_le (show n2 + 1 < 64 by omega) (by decide)
        refine ⟨fun b u hb ne => ?_, by rw [upd_ne mD]; exact hm2, _, _, upd_same, by split <;> omega, fun k => ?_⟩
        · rw [upd_ne (fun e => by rw [e, nD] at hb; cases hb)]
          exact s2 b u hb ne
        · have tk : (qd.mv.map Prod.fst).take (j + 1) = (qd.mv.map Prod.fst).take j ++ [ab.1] := by rw [List.take_add_one, List.getElem?_map, hab]; rfl
          rw [tk, ← List.append_assoc, Bool.or_eq_true, hS2 k, decide_eq_true_eq]
          constructor
          · rintro (⟨a, ha, rfl⟩ | rfl)
            · exact ⟨a, List.mem_append_left _ ha, rfl⟩
            · exact ⟨ab.1, List.mem_append_right _ (List.mem_singleton.mpr rfl), rfl⟩
          · rintro ⟨a, ha, rfl⟩
            rcases List.mem_append.mp ha with ha | ha
            · exact .inl ⟨a, ha, rfl⟩
            · exact .inr (by rw [List.mem_singleton.mp ha])
      · rintro H2 ⟨s2, hm2, S2, n2, hD2, hn2, hS2⟩
        refine ⟨hm2, fun b u hb => ?_, S2, n2, by rw [upd_ne mD.symm]; exact hD2, ?_, ?_⟩
        · by_cases c : b = m
          · rw [c, upd_same, ← g2, ← c, hb]
          · rw [upd_ne c]
            exact s2 b u hb c
        · rw [km, List.length_append, List.length_map]
          rw [natKV_len] at hn2
          omega
        · have tk : (qd.mv.map Prod.fst).take qd.mv.length = qd.mv.map Prod.fst := List.take_of_length_le (by rw [List.length_map]; exact Nat.le_refl _)
          rw [natKV_len, tk, ← km] at hS2
          exact hS2
    · rintro H1 ⟨s1, S, n, hD, hn, hS⟩
      rw [List.length_map, h4.len, List.take_length] at hn hS
      refine ⟨D, S, n, rfl, hD, by omega, fun ns o2 hns hmem _ no2 => ?_⟩
      refine q o2 ns _ (fun b u hb => ?_) (by cases e : H o2 with | none => rfl | some u => rw [s1 _ _ e] at no2; cases no2) hns (fun k => (hmem k).trans (hS k)) upd_same
      have hb1 := s1 b u hb
      rw [upd_ne (fun e => by rw [e, no2] at hb1; cases hb1)]
      exact hb1
end
section
variable {P : Program} {w : World} {K : PySem.W.Frag} {mg : Str → Option Value} {base : Heap} {CP CW : Addr}
/-! ### the text of a part -/
theorem rows_leK : ∀ {ws : List (List Nat)}, (∀ q ∈ ws, q ≠ []) → ws.length ≤ ws.flatten.length
  | [], _ => Nat.le_refl _
  | r :: ws, h => by
    have a := rows_leK (ws := ws) fun q hq => h q (List.mem_cons_of_mem _ hq)
    have b : 1 ≤ r.length := by
      cases r with
      | nil => exact absurd rfl (h [] List.mem_cons_self)
      | cons x r => rw [List.length_cons]; omega
    rw [List.flatten_cons, List.length_append, List.length_cons]
    omega
/-- t is the text of the part q -/
def PTx (q : PD) (t : Str) : Prop := (q.nm.length ≠ 0 ∧ q.nm.length ≤ 1000 ∧ t = if q.bk = true then (Str.empty ++ ("~" : Str)) ++ q.nm else q.nm) ∨
  (q.nm.length = 0 ∧ ∃ f n ks, q.mv = graph f ks ∧ Moves f n ks ∧ n ≤ 1000 ∧ t = txA (rings f n))
theorem PTx.len {q : PD} {t : Str} (h : PTx q t) : t.length ≤ 10000 := by
  rcases h with ⟨_, h, rfl⟩ | ⟨_, f, n, ks, _, M, hn, rfl⟩
  · split
    · have l0 : Str.empty.length = 0 := rfl
      have l1 : (("~" : Str)).length = 1 := by decide +kernel
      rw [app_len, app_len, l0, l1]
      omega
    · omega
  · have few : (rings f n).flatten.length ≤ ks.length := nodup_sub (rings_nodup M.perm) fun x hx => M.all x (rings_lt M.perm hx) (mem_rings_moves M.perm hx)
    have := M.few
    have row : (rings f n).length ≤ (rings f n).flatten.length := rows_leK fun r hr => rings_ne M.perm hr
    exact txA_len (fun x hx => Nat.lt_of_lt_of_le (rings_lt M.perm hx) hn) (by omega) (by omega)
abbrev s_part_text : Stmt := top 23
theorem sc_part_text : FnScope ["part"] ["part"] (defScope s_part_text) := ⟨rfl, rfl, rfl, by decide +kernel, rfl, by decide +kernel, by decide +kernel⟩

def spPartT (CP : Addr) : Sp := fun vs H Q _ => ∃ (p : Addr) (q : PD) (t : Str), vs = [.ref p] ∧ PartAt CP H p q ∧ PTx q t ∧ ∀ H' : Hp, Same H H' → Q (.str t) H'
theorem ok_part_text {f : Addr} {fd : FuncData} (F : Fun K "part_text" "part_text" s_part_text f fd) (WP : PTxt K CP) (D_rings_of : DefOk P w K mg base CX0 1 "rings_of" ["moves"] [] spRingsOf) (D_rings_text : DefOk P w K mg base CX0 1 "rings_text" ["rings"] [] (spText K)) :
    FnOk P w K mg base CX0 2 f fd ["part"] (spPartT CP) := by
  refine F.ok sc_part_text (fun vs H Q E h => ?_) (fun cdv A outer s H vs Q E hr h => ?_)
  · obtain ⟨p, q, t, rfl, _⟩ := h; rfl
  · obtain ⟨p, qd, t, rfl, ⟨dx, m, g1, g2⟩, hT, q⟩ := h
    refine ⟨_, (pss_cons (ps_if (pt_not (pt_truth (pe_fld (pv 0) rfl) (by intro _; rfl))) (pss_one (ps_ret (pe_d D_rings_text hr pass0 (pa_cons (pe_d D_rings_of hr pass0 (pa_cons (pe_fld (pv 0) rfl) pa_nil)) pa_nil)))) pss_nil)
    (pss_one (ps_ret (pe_ifExp (pt_truth (pe_fld (pv 0) rfl) (by intro _; rfl)) (pe_joined (.cons pe_str (.cons (pe_fmt (pe_fld (pv 0) rfl)) .nil))) (pe_fld (pv 0) rfl))))), ?_⟩
    rcases hT with ⟨n0, nl, rfl⟩ | ⟨n0, f, n, ks, em, M, hn, rfl⟩
    · refine ⟨_, rfl, p, CP, dx, _, _, rfl, g1, WP.cl, WP.nN, pF_name _ _ _, true, ⟨by rw [sizeLine_eq]; omega, by symm; simp; omega⟩, iteF ?_⟩
      refine ⟨_, rfl, p, CP, dx, _, _, rfl, g1, WP.cl, WP.nB, pF_back _ _ _, qd.bk, rfl, ?_⟩
      cases hb : qd.bk with
      | true =>
        rw [hb] at q
        have l0 : Str.empty.length = 0 := rfl
        have l1 : (("~" : Str)).length = 1 := by decide +kernel
        refine iteT ⟨_, rfl, by rw [app_len, l0, l1, sizeLine_eq]; omega, _, rfl, p, CP, dx, _, _, rfl, g1, WP.cl, WP.nN, pF_name _ _ _, .inl ⟨_, rfl, by rw [sizeLine_eq]; omega, _, rfl, by rw [app_len, app_len, l0, l1, sizeLine_eq]; omega, ?_⟩⟩
        exact q H (Same.refl _)
      | false =>
        rw [hb] at q
        refine iteF ⟨_, rfl, p, CP, dx, _, _, rfl, g1, WP.cl, WP.nN, pF_name _ _ _, ?_⟩
        exact q H (Same.refl _)
    · refine ⟨_, rfl, p, CP, dx, _, _, rfl, g1, WP.cl, WP.nN, pF_name _ _ _, false, ⟨by rw [sizeLine_eq]; omega, by symm; simp [n0]⟩, iteT ?_⟩
      rw [em] at g2
      refine ⟨_, rfl, p, CP, dx, _, _, rfl, g1, WP.cl, WP.nM, pF_moves _ _ _, m, f, n, ks, rfl, g2, M, fun o as H1 s1 no nas hoa hnd ho hg => ?_⟩
      have few : (rings f n).flatten.length ≤ ks.length := nodup_sub (rings_nodup M.perm) fun x hx => M.all x (rings_lt M.perm hx) (mem_rings_moves M.perm hx)
      have kf := M.few
      have row : (rings f n).length ≤ (rings f n).flatten.length := rows_leK fun r hr => rings_ne M.perm hr
      exact ⟨o, as, _, rfl, SqL.of ho, hg, fun x hx => Nat.lt_of_lt_of_le (rings_lt M.perm hx) hn, by omega, by omega, fun H2 s2 => q H2 (s1.trans s2)⟩
/-! ### the text of a word -/
abbrev s_Word_str : Stmt := inClass (top 19) 16
theorem sc_Word_str : FnScope ["self", "part"] ["self"] (defScope s_Word_str) := ⟨rfl, rfl, rfl, by decide +kernel, rfl, by decide +kernel, by decide +kernel⟩

/-- the text of parts with these texts -/
def wdTx (ts : List Str) : Str := if ts = [] then "()" else Txt.join " " ts
def spWStr (CP CW : Addr) : Sp := fun vs H Q _ => ∃ (x : Addr) (ds : List PD) (ks : List (Str × Str)) (ts : List Str), vs = [.ref x] ∧ WordAt CP CW H x ds ks ∧ ds.length ≤ 1000 ∧ ts.length = ds.length ∧ (∀ (i : Nat) q t, ds[i]? = some q → ts[i]? = some t → PTx q t) ∧
  ∀ H' : Hp, Same H H' → Q (.str (wdTx ts)) H'
theorem ok_Word_str {f : Addr} {fd : FuncData} (F : Fun K "__str__" "Word.__str__" s_Word_str f fd) (W : WdTxt K CW) (D_part_text : DefOk P w K mg base CX0 2 "part_text" ["part"] [] (spPartT CP)) : FnOk P w K mg base CX0 4 f fd ["self"] (spWStr CP CW) := by
  refine F.ok sc_Word_str (fun vs H Q E h => ?_) (fun cdv A outer s H vs Q E hr h => ?_)
  · obtain ⟨x, ds, ks, ts, rfl, _⟩ := h; rfl
  · obtain ⟨x, ds, ks, ts, rfl, ⟨dx, o, d, as, h1, h2, h3, h4⟩, hl, htl, hts, q⟩ := h
    refine ⟨_, (pss_cons (ps_if (pt_not (pt_truth (pe_fld (pv 0) rfl) (by intro _; rfl))) (pss_one (ps_ret pe_str)) pss_nil)
    (pss_one (ps_ret (pe_joinS pe_str (pe_lc (own := [("part", 1)]) (tt := tYes) (te := tCall (spPartT CP) [] E0 (tCons (tVar 1) tNil)) rfl sc_Word_str.nd (pi_list (pe_fld (pv 0) rfl)) (blkOk_by (N := ["self", "part"]) (sc := defScope s_Word_str) (by decide +kernel)) (fun _ _ _ _ _ => (pg_name (i := 1) sc_Word_str.nd rfl (.inl rfl))) (fun _ _ _ _ _ => pts_nil) (fun _ _ _ _ _ => by exact (pe_d D_part_text hr pass0 (pa_cons (pv 1) pa_nil)))))))), ?_⟩
    refine ⟨_, rfl, x, CW, dx, _, _, rfl, h1, W.cl, W.nP, wdF_parts _ _, ?_⟩
    by_cases e0 : ds = []
    · have et : ts = [] := List.length_eq_zero_iff.mp (by rw [htl, e0]; rfl)
      have ea : as = [] := List.length_eq_zero_iff.mp (by rw [h4.len, e0]; rfl)
      rw [ea] at h2
      refine ⟨false, .inl ⟨[], SqL.of h2, rfl⟩, iteT ?_⟩
      have := q H (Same.refl _)
      rw [et] at this
      exact this
    · have ne : as ≠ [] := fun e => e0 (List.length_eq_zero_iff.mp (by rw [← h4.len, e]; rfl))
      have net : ts ≠ [] := fun e => e0 (List.length_eq_zero_iff.mp (by rw [← htl, e]; rfl))
      refine ⟨true, .inl ⟨_, SqL.of h2, by cases as with | nil => exact absurd rfl ne | cons a l => rfl⟩, iteF ?_⟩
      refine ⟨⟨_, rfl⟩, _, rfl, x, CW, dx, _, _, rfl, h1, W.cl, W.nP, wdF_parts _ _, o, rfl, ⟨_, SqL.of h2⟩, fun D nD => ?_⟩
      refine lc_list (K := K) (a := o) (xs := as.map V.ref) (fun i H1 => Same H H1 ∧ H1 D = some (.lst ((ts.take i).map V.str))) ⟨same_upd nD, upd_same⟩ (fun i H1 _ ⟨s1, _⟩ => SqL.of (s1 _ _ h2)) ?_ ?_
      · rintro i y H1 hi ⟨s1, hD⟩
        obtain ⟨p, hp, rfl⟩ : ∃ p, as[i]? = some p ∧ y = V.ref p := by
          rw [List.getElem?_map] at hi
          cases e : as[i]? with
          | none => rw [e] at hi; cases hi
          | some p => rw [e] at hi; exact ⟨p, rfl, (Option.some.inj hi).symm⟩
        have il : i < ds.length := by rw [← h4.len]; exact (List.getElem?_eq_some_iff.mp hp).1
        obtain ⟨qd, hq⟩ : ∃ qd, ds[i]? = some qd := ⟨_, List.getElem?_eq_getElem il⟩
        obtain ⟨t, ht⟩ : ∃ t, ts[i]? = some t := ⟨_, List.getElem?_eq_getElem (by rw [htl]; exact il)⟩
        refine ⟨rfl, yesT ⟨_, rfl, p, qd, t, rfl, (h4.at_ i p qd hp hq).mono s1, hts i qd t hq ht, fun H2 s2 => ?_⟩⟩
        refine ⟨_, s2 _ _ hD, small64 (by rw [List.length_map, List.length_take]; omega), mutS (s1.trans s2) nD, ?_⟩
        rw [upd_same, List.take_add_one, ht, List.map_append]
        rfl
      · rintro H1 ⟨s1, hD⟩
        rw [List.length_map, h4.len, ← htl, List.take_length] at hD
        have bl : ((" " : Str)).length = 1 := by decide +kernel
        have sum : (ts.map (·.length)).sum ≤ ts.length * 10000 := sum_le_mul fun t ht => by
          obtain ⟨i, hi⟩ := List.mem_iff_getElem?.mp ht
          obtain ⟨qd, hq⟩ : ∃ qd, ds[i]? = some qd := ⟨_, List.getElem?_eq_getElem (by rw [← htl]; exact (List.getElem?_eq_some_iff.mp hi).1)⟩
          exact (hts i qd t hq hi).len
        refine ⟨" ", D, ts, rfl, rfl, .inl (SqL.of hD), by rw [bl]; omega, ?_⟩
        have := q H1 s1
        unfold wdTx at this
        rw [if_neg net] at this
        exact this
end
section
variable {P : Program} {w : World} {K : PySem.W.Frag} {mg : Str → Option Value} {base : Heap} {CP CW : Addr}
/-! ### equal parts and equal words -/
/-- the class as isinstance asks of it -/
structure IsTxt (K : PySem.W.Frag) (C : Addr) : Prop where
  cl : Cls K C
  cla : PySem.W.findIn K (.ref C) "__class__" = some (some (.builtin "object.__class__"))
  hget : PySem.W.specialIn K (.builtin "object.__class__") "__get__" = some (some (.builtin "getset_descriptor.__get__"))
  htk : PySem.W.takesIn K (.builtin "object.__class__") = some true
  hmro : PySem.W.mroIn K C (.type "object") = some true
theorem IsTxt.ty {H : Hp} {C a dx : Addr} {fs : List (Str × V)} (T : IsTxt K C) (h : H a = some (.ins C dx fs)) : TyX K H (.ref a) (.ref C) := .base (.ins h T.cl T.cla T.hget T.htk T.hmro)
/-- one part twice -/
def SameP (CP : Addr) : Addr → Addr → Hp → Prop := fun a b H => ∃ q : PD, PartAt CP H a q ∧ PartAt CP H b q ∧ (q.mv.map Prod.fst).Nodup
abbrev s_Part_eq : Stmt := inClass (top 18) 1
theorem sc_Part_eq : FnScope ["self", "other"] ["self", "other"] (defScope s_Part_eq) := ⟨rfl, rfl, rfl, by decide +kernel, rfl, by decide +kernel, by decide +kernel⟩

theorem kv_self {g : List (Nat × Nat)} (h : (g.map Prod.fst).Nodup) : ∀ p ∈ natKV g, valV (natKV g) p.1 = some p.2 ∧ flatB p.2 = true := by
  have key : ∀ (l : List (Nat × Nat)), (l.map Prod.fst).Nodup → ∀ ab ∈ l, valV (natKV l) (Sum.inl (ab.1 : Int)) = some (nv ab.2) := by
    intro l
    induction l with
    | nil => intro _ ab hab; cases hab
    | cons c g ih =>
      intro h ab hab
      rw [List.map_cons, List.nodup_cons] at h
      show (List.find? (fun kv => decide (kv.1 = (Sum.inl (ab.1 : Int) : Key))) ((Sum.inl (c.1 : Int), nv c.2) :: natKV g)).map (fun x => x.2) = _
      rcases List.mem_cons.mp hab with rfl | hab
      · rw [List.find?_cons_of_pos (by simp)]
        rfl
      · have ne : ¬ ((Sum.inl (c.1 : Int) : Key) = Sum.inl (ab.1 : Int)) := fun e => h.1 (by
          have e1 : (c.1 : Int) = (ab.1 : Int) := Sum.inl.inj e
          have e2 : c.1 = ab.1 := by omega
          rw [e2]
          exact List.mem_map.mpr ⟨ab, hab, rfl⟩)
        rw [List.find?_cons_of_neg (by simpa using ne)]
        exact ih h.2 ab hab
  intro p hp
  unfold natKV at hp
  obtain ⟨ab, hab, rfl⟩ := List.mem_map.mp hp
  exact ⟨key g h ab hab, rfl⟩
theorem ok_Part_eq {f : Addr} {fd : FuncData} (F : Fun K "__eq__" "Part.__eq__" s_Part_eq f fd) (T : Blt mg) (gP : mg "Part" = some (.ref CP)) (IP : IsTxt K CP) (WP : PTxt K CP) : FnOk P w K mg base CX0 1 f fd ["self", "other"] (L2.spEq (SameP CP)) := by
  refine F.ok sc_Part_eq (fun vs H Q E h => ?_) (fun cdv A outer s H vs Q E hr h => ?_)
  · obtain ⟨a, b, rfl, _⟩ := h; rfl
  · obtain ⟨a, b, rfl, ⟨qd, ⟨dx, m, g1, g2⟩, ⟨dx', m', g1', g2'⟩, nd⟩, q⟩ := h
    have hu2 : (A.deeper (envOfC "Part.__eq__" (defScope s_Part_eq) s.heap.objs.size f cdv)).units + 64 < cLine := by have := hr.un; omega
    refine ⟨_, (pss_one (ps_ret (pe_and (pe_callB call_isi (by rfl) T.isinstance (by decide +kernel) (pa_cons (pv 1) (pa_cons (pe_glob (v := .ref _) rfl gP rfl) pa_nil))) (pe_and (pe_cmpR op_eq (pe_fld (pv 0) rfl) (pe_fld (pv 1) rfl) (nomark _)) (pe_and (pe_cmpR op_eq (pe_fld (pv 0) rfl) (pe_fld (pv 1) rfl) (nomark _)) (pe_one (pe_cmpR (op_eq_dictA (Nat.lt_of_le_of_lt (Nat.le_add_right _ 64) hu2)) (pe_fld (pv 0) rfl) (pe_fld (pv 1) rfl) (nomark _)))))))), ?_⟩
    refine ⟨_, rfl, .ref b, .ref CP, .ref CP, .ref CP, true, rfl, .own CP, IP.ty g1', kit_self, true, rfl, iteT ?_⟩
    refine ⟨_, rfl, a, CP, dx, _, _, rfl, g1, WP.cl, WP.nN, pF_name _ _ _, _, rfl, b, CP, dx', _, _, rfl, g1', WP.cl, WP.nN, pF_name _ _ _, rfl, true, by rw [decide_eq_true rfl], iteT ?_⟩
    refine ⟨_, rfl, a, CP, dx, _, _, rfl, g1, WP.cl, WP.nB, pF_back _ _ _, _, rfl, b, CP, dx', _, _, rfl, g1', WP.cl, WP.nB, pF_back _ _ _, rfl, true, by rw [decide_eq_true rfl], iteT ?_⟩
    refine ⟨_, rfl, a, CP, dx, _, _, rfl, g1, WP.cl, WP.nM, pF_moves _ _ _, _, rfl, b, CP, dx', _, _, rfl, g1', WP.cl, WP.nM, pF_moves _ _ _, m, m', _, _, rfl, rfl, g2, g2', rfl, kv_self nd, ?_⟩
    exact q H Ext.rfl'
abbrev s_Word_eq : Stmt := inClass (top 19) 14
theorem sc_Word_eq : FnScope ["self", "other"] ["self", "other"] (defScope s_Word_eq) := ⟨rfl, rfl, rfl, by decide +kernel, rfl, by decide +kernel, by decide +kernel⟩

theorem kv2_self {ks : List (Str × Str)} (h : (ks.map Prod.fst).Nodup) : ∀ p ∈ kV2 ks, valV (kV2 ks) p.1 = some p.2 ∧ flatB p.2 = true := by
  have key : ∀ (l : List (Str × Str)), (l.map Prod.fst).Nodup → ∀ ab ∈ l, valV (kV2 l) (Sum.inr ab.1) = some (V.str ab.2) := by
    intro l
    induction l with
    | nil => intro _ ab hab; cases hab
    | cons c g ih =>
      intro h ab hab
      rw [List.map_cons, List.nodup_cons] at h
      show (List.find? (fun kv => decide (kv.1 = (Sum.inr ab.1 : Key))) ((Sum.inr c.1, V.str c.2) :: kV2 g)).map (fun x => x.2) = _
      rcases List.mem_cons.mp hab with rfl | hab
      · rw [List.find?_cons_of_pos (by simp)]
        rfl
      · have ne : ¬ ((Sum.inr c.1 : Key) = Sum.inr ab.1) := fun e => h.1 (by
          have e2 : c.1 = ab.1 := Sum.inr.inj e
          rw [e2]
          exact List.mem_map.mpr ⟨ab, hab, rfl⟩)
        rw [List.find?_cons_of_neg (by simpa using ne)]
        exact ih h.2 ab hab
  intro p hp
  unfold kV2 at hp
  obtain ⟨ab, hab, rfl⟩ := List.mem_map.mp hp
  exact ⟨key ks h ab hab, rfl⟩
def spWEq (CP CW : Addr) : Sp := fun vs H Q _ => ∃ (x y : Addr) (ds : List PD) (ks : List (Str × Str)), vs = [.ref x, .ref y] ∧ WordAt CP CW H x ds ks ∧ WordAt CP CW H y ds ks ∧ (∀ q ∈ ds, (q.mv.map Prod.fst).Nodup) ∧ (ks.map Prod.fst).Nodup ∧ ∀ H' : Hp, Same H H' → Q (.bl true) H'
theorem ok_Word_eq {f : Addr} {fd : FuncData} (F : Fun K "__eq__" "Word.__eq__" s_Word_eq f fd) (T : Blt mg) (gW : mg "Word" = some (.ref CW)) (IW : IsTxt K CW) (W : WdTxt K CW) (D_Part_eq : MethOk P w K mg base CX0 1 CP "__eq__" ["self", "other"] [] (L2.spEq (SameP CP))) :
    FnOk P w K mg base CX0 4 f fd ["self", "other"] (spWEq CP CW) := by
  obtain ⟨fP, fdP, dsP, hMP, hbP, hdP, FP⟩ := D_Part_eq
  cases hdP
  refine F.ok sc_Word_eq (fun vs H Q E h => ?_) (fun cdv A outer s H vs Q E hr h => ?_)
  · obtain ⟨x, y, ds, ks, rfl, _⟩ := h; rfl
  · obtain ⟨x, y, ds, ks, rfl, ⟨dx, o, d, as, h1, h2, h3, h4⟩, ⟨dx', o', d', as', h1', h2', h3', h4'⟩, hnd, hks, q⟩ := h
    have hu2 : (A.deeper (envOfC "Word.__eq__" (defScope s_Word_eq) s.heap.objs.size f cdv)).units + 64 < cLine := by have := hr.un; omega
    have hr2 : Room 2 (A.deeper (envOfC "Word.__eq__" (defScope s_Word_eq) s.heap.objs.size f cdv)) := hr.mono (by decide)
    have mon : Mon (DIns CP (SameP CP)) := mon_ins fun a b H H' e ⟨q, h1, h2, h3⟩ => ⟨q, h1.mono e, h2.mono e, h3⟩
    refine ⟨_, (pss_one (ps_ret (pe_and (pe_callB call_isi (by rfl) T.isinstance (by decide +kernel) (pa_cons (pv 1) (pa_cons (pe_glob (v := .ref _) rfl gW rfl) pa_nil))) (pe_and (pe_cmpR (op_eqG (rcG_list mon (eqG_ins (E := E0) FP hMP.at_ hMP.fn hbP pass0)) hr2) (pe_fld (pv 0) rfl) (pe_fld (pv 1) rfl) (nomark _)) (pe_one (pe_cmpR (op_eq_dictA (Nat.lt_of_le_of_lt (Nat.le_add_right _ 64) hu2)) (pe_fld (pv 0) rfl) (pe_fld (pv 1) rfl) (nomark _))))))), ?_⟩
    refine ⟨_, rfl, .ref y, .ref CW, .ref CW, .ref CW, true, rfl, .own CW, IW.ty h1', kit_self, true, rfl, iteT ?_⟩
    refine ⟨_, rfl, x, CW, dx, _, _, rfl, h1, W.cl, W.nP, wdF_parts _ _, _, rfl, y, CW, dx', _, _, rfl, h1', W.cl, W.nP, wdF_parts _ _, ?_⟩
    refine ⟨⟨o, o', _, _, rfl, rfl, h2, h2', by rw [List.length_map, List.length_map, h4.len, h4'.len], fun i u v e1 e2 => ?_⟩, fun H1 ex => ?_⟩
    · rw [List.getElem?_map] at e1 e2
      obtain ⟨p, hp⟩ : ∃ p, as[i]? = some p := by cases e : as[i]? with | none => rw [e] at e1; cases e1 | some p => exact ⟨p, rfl⟩
      obtain ⟨p', hp'⟩ : ∃ p, as'[i]? = some p := by cases e : as'[i]? with | none => rw [e] at e2; cases e2 | some p => exact ⟨p, rfl⟩
      rw [hp] at e1
      rw [hp'] at e2
      cases e1
      cases e2
      obtain ⟨qd, hq⟩ : ∃ qd, ds[i]? = some qd := ⟨_, List.getElem?_eq_getElem (by rw [← h4.len]; exact (List.getElem?_eq_some_iff.mp hp).1)⟩
      have P1 := h4.at_ i p qd hp hq
      have P2 := h4'.at_ i p' qd hp' hq
      obtain ⟨e1, _, g1, _⟩ := id P1
      obtain ⟨e2, _, g2, _⟩ := id P2
      exact ⟨p, p', e1, e2, _, _, rfl, rfl, g1, g2, qd, P1, P2, hnd qd (List.mem_of_getElem? hq)⟩
    · refine ⟨true, rfl, iteT ?_⟩
      refine ⟨_, rfl, x, CW, dx, _, _, rfl, ex _ _ h1, W.cl, W.nK, wdF_kinds _ _, _, rfl, y, CW, dx', _, _, rfl, ex _ _ h1', W.cl, W.nK, wdF_kinds _ _, d, d', _, _, rfl, rfl, ex _ _ h3, ex _ _ h3', rfl, kv2_self hks, ?_⟩
      exact q H1 ex
end
section
variable {P : Program} {w : World} {K : PySem.W.Frag} {mg : Str → Option Value} {base : Heap} {CP CW : Addr}
/-- a part that is a known wire, its dict at m -/
def PartK (CP : Addr) (H : Hp) (p m : Addr) (kv : List (Key × V)) : Prop := (∃ dx, H p = some (.ins CP dx (pF (.str "") (.bl false) (.ref m)))) ∧ H m = some (.dK kv)
def spOne1 (K : PySem.W.Frag) (CP : Addr) : Sp := fun vs H Q _ => ∃ (a b p m : Addr) (kv : List (Key × V)), vs = [.ref a, .ref b] ∧ SqL K H a [.ref p] ∧ PartK CP H p m kv ∧
  ∀ (o : Addr) (H' : Hp), Same H H' → H o = none → ((kv = [] ∧ H' o = some (.lst [])) ∨ (kv ≠ [] ∧ ∃ p2, H p2 = none ∧ H' o = some (.lst [.ref p2]) ∧ PartK CP H' p2 m kv)) → Q (.ref o) H'
theorem ok_one_form1 {f : Addr} {fd : FuncData} (F : Fun K "one_form" "one_form" s_one_form f fd) (W : PTxt K CP) (M_Part : MakeOk P w K mg base CX0 1 CP "Part" ["self", "name", "back", "moves"] [] (spPart CP)) : FnOk P w K mg base CX0 3 f fd ["parts", "kinds"] (spOne1 K CP) := by
  refine F.ok sc_one_form (fun vs H Q E h => ?_) (fun cdv A outer s H vs Q E hr h => ?_)
  · obtain ⟨a, b, p, m, kv, rfl, _⟩ := h; rfl
  · obtain ⟨a, b, p, m, kv, rfl, hS, ⟨⟨dx, h1⟩, h2⟩, q⟩ := h
    refine ⟨_, (pss_cons (ps_set (i := 2) sc_one_form.nd rfl (.inl rfl) (pe_lst pa_nil))
    (pss_cons (ps_for PassesOwn.never rfl (pi_list (pv 0)) (pg_name (i := 3) sc_one_form.nd rfl (.inl rfl)) (pss_cons (ps_if (pt_not (pt_truth (pe_fld (pv 3) rfl) (by intro _; rfl))) (pss_cons (ps_set (i := 4) sc_one_form.nd rfl (.inl rfl) (pe_fld (pv 3) rfl))
    (pss_cons (ps_if (PW.pt (pw_and (pt_truth (pv 2) (by intro _; rfl)) (pw_and1 (pt_not (pt_truth (pe_fld (pe_ix ix_list (pv 2) (pe_un un_neg pe_int) (fun _ _ => rfl)) rfl) (by intro _; rfl)))))) pss_never pss_nil)
    (pss_cons (ps_if (pt_truth (pv 4) (by intro _; rfl)) (pss_one (ps_expr (pe_bm PySem.F.plainAttrs_list PySem.F.slot_list_append PySem.F.type_list_append mt_append (pv 2) (pa_cons (pe_mk' M_Part hr pass0 (pa_cons pe_str (pa_cons pe_bl (pa_cons (pv 4) pa_nil)))) pa_nil)))) pss_nil)
    (pss_one ps_continue)))) pss_nil)
    pss_never))
    (pss_one (ps_ret (pv 2))))), ?_⟩
    refine ⟨Nat.zero_le _, fun o no => ?_⟩
    have s1 : Same H (upd H o (.lst [])) := same_upd no
    have ho : (upd H o (.lst [])) o = some (.lst []) := upd_same
    generalize upd H o (.lst []) = H1 at s1 ho ⊢
    refine ⟨_, rfl, a, rfl, ⟨_, s1.seq hS⟩, for_list (K := K) (a := a) (xs := [.ref p]) (fun i σ H' => ∃ v3 v4 : Option V, σ = [some (.ref a), some (.ref b), some (.ref o), v3, v4, none, none] ∧ Same H H' ∧
        ((i = 0 ∧ H' o = some (.lst [])) ∨ (1 ≤ i ∧ ((kv = [] ∧ H' o = some (.lst [])) ∨ (kv ≠ [] ∧ ∃ p2, H p2 = none ∧ H' o = some (.lst [.ref p2]) ∧ PartK CP H' p2 m kv)))))
      ⟨none, none, rfl, s1, .inl ⟨rfl, ho⟩⟩ (fun i σ H' _ ⟨_, _, _, s, _⟩ => s.seq hS) ?_ ?_⟩
    · rintro i y σ H' hi ⟨v3, v4, rfl, s2, hc⟩
      have i0 : i = 0 := by
        have := (List.getElem?_eq_some_iff.mp hi).1
        rw [List.length_singleton] at this
        omega
      subst i0
      cases hi
      have ho' : H' o = some (.lst []) := by
        rcases hc with ⟨_, h⟩ | ⟨h, _⟩
        · exact h
        · omega
      have h1' := s2 _ _ h1
      have h2' := s2 _ _ h2
      refine ⟨_, rfl, p, CP, dx, _, _, rfl, h1', W.cl, W.nN, pF_name _ _ _, false, ⟨by decide +kernel, by decide +kernel⟩, iteT ?_⟩
      refine ⟨_, rfl, p, CP, dx, _, _, rfl, h1', W.cl, W.nM, pF_moves _ _ _, ?_⟩
      refine ⟨_, rfl, false, .inl ⟨[], SqL.of ho', rfl⟩, iteF (iteF ?_)⟩
      refine ⟨_, rfl, !kv.isEmpty, .inr (.inr ⟨kv, h2', rfl⟩), ?_⟩
      cases kv with
      | nil => exact iteF ⟨_, _, rfl, s2, .inr ⟨Nat.le_refl _, .inl ⟨rfl, ho'⟩⟩⟩
      | cons e kv =>
        refine iteT ?_
        refine ⟨_, rfl, .inl ⟨rfl, _, SqL.of ho'⟩, _, rfl, fun x dx2 nx ndx nex => ?_⟩
        have ox : o ≠ x := ne_of_none ho' nx
        have odx : o ≠ dx2 := ne_of_none ho' ndx
        have mx : m ≠ x := ne_of_none h2' nx
        have mdx : m ≠ dx2 := ne_of_none h2' ndx
        refine ⟨x, dx2, _, _, _, rfl, upd_same, rfl, ?_⟩
        have s3 : Same H (upd (upd (upd (upd (upd H' dx2 (.own x)) x (.ins CP dx2 [])) x (.ins CP dx2 [("name", .str "")])) x (.ins CP dx2 [("name", .str ""), ("back", .bl false)])) x (.ins CP dx2 (pF (.str "") (.bl false) (.ref m)))) := fun c u hc => by
          have hc' := s2 c u hc
          have cx : c ≠ x := ne_of_none hc' nx
          have cd : c ≠ dx2 := ne_of_none hc' ndx
          rw [upd_ne cx, upd_ne cx, upd_ne cx, upd_ne cx, upd_ne cd]
          exact hc'
        have ho3 : (upd (upd (upd (upd (upd H' dx2 (.own x)) x (.ins CP dx2 [])) x (.ins CP dx2 [("name", .str "")])) x (.ins CP dx2 [("name", .str ""), ("back", .bl false)])) x (.ins CP dx2 (pF (.str "") (.bl false) (.ref m)))) o = some (.lst []) := by
          rw [upd_ne ox, upd_ne ox, upd_ne ox, upd_ne ox, upd_ne odx]
          exact ho'
        have hm3 : (upd (upd (upd (upd (upd H' dx2 (.own x)) x (.ins CP dx2 [])) x (.ins CP dx2 [("name", .str "")])) x (.ins CP dx2 [("name", .str ""), ("back", .bl false)])) x (.ins CP dx2 (pF (.str "") (.bl false) (.ref m)))) m = some (.dK (e :: kv)) := by
          rw [upd_ne mx, upd_ne mx, upd_ne mx, upd_ne mx, upd_ne mdx]
          exact h2'
        have hx3 : (upd (upd (upd (upd (upd H' dx2 (.own x)) x (.ins CP dx2 [])) x (.ins CP dx2 [("name", .str "")])) x (.ins CP dx2 [("name", .str ""), ("back", .bl false)])) x (.ins CP dx2 (pF (.str "") (.bl false) (.ref m)))) x = some (.ins CP dx2 (pF (.str "") (.bl false) (.ref m))) := upd_same
        refine ⟨o, _, _, rfl, rfl, ho3, by show 0 < sizeLine; decide, ?_⟩
        generalize upd (upd (upd (upd (upd H' dx2 (.own x)) x (.ins CP dx2 [])) x (.ins CP dx2 [("name", .str "")])) x (.ins CP dx2 [("name", .str ""), ("back", .bl false)])) x (.ins CP dx2 (pF (.str "") (.bl false) (.ref m))) = H3 at s3 ho3 hm3 hx3 ⊢
        have om : m ≠ o := fun e' => by rw [e', ho3] at hm3; cases hm3
        refine ⟨_, _, rfl, mutS s3 no, .inr ⟨Nat.le_refl _, .inr ⟨by simp, x, s2.free nx, upd_same, ⟨dx2, by rw [upd_ne ox.symm]; exact hx3⟩, by rw [upd_ne om]; exact hm3⟩⟩⟩
    · rintro σ H' ⟨v3, v4, rfl, s2, hc⟩
      refine ⟨_, rfl, q o H' s2 no ?_⟩
      rcases hc with ⟨h, _⟩ | ⟨_, h⟩
      · cases h
      · exact h
end
section
variable {P : Program} {w : World} {K : PySem.W.Frag} {mg : Str → Option Value} {base : Heap} {CP CW : Addr}
/-! ### Word.__init__ of one known part, and how the word lies -/
/-- the parts of a word that is one known wire -/
def knDs (g : List (Nat × Nat)) : List PD := if g = [] then [] else [⟨"", false, g⟩]
/-- such a word lies at x, its moves at m, all else of it new behind H0 -/
def WordK (CP CW : Addr) (H0 H' : Hp) (x m : Addr) (g : List (Nat × Nat)) : Prop := ∃ (dx o d : Addr) (as : List Addr), H' x = some (.ins CW dx (wdF o d)) ∧ H' o = some (.lst (as.map V.ref)) ∧ H' d = some (.dK []) ∧ as.length = (knDs g).length ∧ H0 o = none ∧ H0 d = none ∧ (∀ p ∈ as, H0 p = none) ∧
  ∀ p ∈ as, (∃ dx2, H' p = some (.ins CP dx2 (pF (.str "") (.bl false) (.ref m)))) ∧ H' m = some (.dK (natKV g)) ∧ g ≠ []
theorem WordK.at_ {H0 H' : Hp} {x m : Addr} {g : List (Nat × Nat)} (h : WordK CP CW H0 H' x m g) : WordAt CP CW H' x (knDs g) [] := by
  obtain ⟨dx, o, d, as, h1, h2, h3, hl, _, _, _, h4⟩ := h
  refine ⟨dx, o, d, as, h1, h2, h3, hl, fun i p q e1 e2 => ?_⟩
  obtain ⟨⟨dx2, g1⟩, g2, hg⟩ := h4 p (List.mem_of_getElem? e1)
  have eq : q = ⟨"", false, g⟩ := by
    unfold knDs at e2
    rw [if_neg hg] at e2
    exact List.mem_singleton.mp (List.mem_of_getElem? e2)
  subst eq
  exact ⟨dx2, m, g1, g2⟩
theorem WordK.keep {H0 H' H2 : Hp} {x m : Addr} {g : List (Nat × Nat)} (h : WordK CP CW H0 H' x m g) (nx : H0 x = none) (nm : H0 m = none) (k : ∀ c u, H' c = some u → H0 c = none → H2 c = some u) : WordK CP CW H0 H2 x m g := by
  obtain ⟨dx, o, d, as, h1, h2, h3, hl, no, nd, na, h4⟩ := h
  refine ⟨dx, o, d, as, k _ _ h1 nx, k _ _ h2 no, k _ _ h3 nd, hl, no, nd, na, fun p hp => ?_⟩
  obtain ⟨⟨dx2, g1⟩, g2, hg⟩ := h4 p hp
  exact ⟨⟨dx2, k _ _ g1 (na p hp)⟩, k _ _ g2 nm, hg⟩
theorem WordK.older {H0 H1 H' : Hp} {x m : Addr} {g : List (Nat × Nat)} (h : WordK CP CW H1 H' x m g) (s : Same H0 H1) : WordK CP CW H0 H' x m g := by
  obtain ⟨dx, o, d, as, h1, h2, h3, hl, no, nd, na, h4⟩ := h
  exact ⟨dx, o, d, as, h1, h2, h3, hl, s.free no, s.free nd, fun p hp => s.free (na p hp), h4⟩
def spWdK (K : PySem.W.Frag) (CP CW : Addr) : Sp := fun vs H Q _ => ∃ (x dx a b p m : Addr) (g : List (Nat × Nat)), vs = [.ref x, .ref a, .ref b] ∧ H x = some (.ins CW dx []) ∧ SqL K H a [.ref p] ∧ PartK CP H p m (natKV g) ∧
  ∀ H' : Hp, (∀ b o, H b = some o → b ≠ x → H' b = some o) → WordK CP CW H H' x m g → Q .non H'
theorem ok_Word_initK {f : Addr} {fd : FuncData} (F : Fun K "__init__" "Word.__init__" s_Word_init f fd) (T : Blt mg) (W : WdTxt K CW) (WP : PTxt K CP) (D_one_form : DefOk P w K mg base CX0 3 "one_form" ["parts", "kinds"] [] (spOne1 K CP)) :
    FnOk P w K mg base CX0 4 f fd ["self", "parts", "kinds"] (spWdK K CP CW) := by
  refine F.ok sc_Word_init (fun vs H Q E h => ?_) (fun cdv A outer s H vs Q E hr h => ?_)
  · obtain ⟨x, dx, a, b, p, m, g, rfl, _⟩ := h; rfl
  · obtain ⟨x, dx, a, b, p, m, g, rfl, hx, hS, hP, q⟩ := h
    have hu := hu_of hr
    refine ⟨_, (pss_cons (ps_fld (pv 0) (pe_d D_one_form hr pass0 (pa_cons (pv 1) (pa_cons (pv 2) pa_nil))) rfl)
    (pss_cons (ps_setLc (i := 3) (own := [("part", 4)]) (tt := tTruT K (tFld K (tVar 4) "name")) (te := tFld K (tVar 4) "name") rfl sc_Word_init.nd rfl rfl (sw_true rfl rfl rfl (by decide +kernel)) (pi_list (pe_fld (pv 0) rfl)) (blkOk_by (N := ["self", "parts", "kinds", "names", "part", "name"]) (sc := defScope s_Word_init) (by decide +kernel)) (fun _ _ _ _ _ => (pg_name (i := 4) sc_Word_init.nd rfl (.inl rfl))) (fun _ _ _ _ _ => (by exact (pts_one (pt_truth (pe_fld (pv 4) rfl) (by intro _; rfl))))) (fun _ _ _ _ _ => by exact (pe_fld (pv 4) rfl)))
    (pss_one (ps_fld (pv 0) (pe_dc (own := [("name", 5)]) (tt := tYes) (tk := tVar 5) (tv := tDGet (tVar 2) (tVar 5)) rfl sc_Word_init.nd (pi_list (pe_sortedSetS rfl (by rfl) T.sorted (by rfl) T.set (pv 3))) (blkOk_by (N := ["self", "parts", "kinds", "names", "part", "name"]) (sc := defScope s_Word_init) (by decide +kernel)) (fun _ _ _ _ _ => (pg_name (i := 5) sc_Word_init.nd rfl (.inl rfl))) (fun _ _ _ _ _ => pts_nil) (fun _ _ _ _ _ => by exact (pv 5)) (fun _ _ _ _ _ => by exact (pe_dget hu (pv 2) (pv 5) (fun _ _ => rfl)))) rfl)))), ?_⟩
    refine ⟨_, rfl, _, rfl, a, b, p, m, natKV g, rfl, hS, hP, fun o H1 s1 no hc => ?_⟩
    have hx1 := s1 _ _ hx
    refine ⟨_, rfl, x, CW, dx, [], rfl, hx1, W.cl, W.nP, (by show 0 < 1000; decide), ?_⟩
    have e1 : putF "parts" (.ref o) [] = [(("parts" : Str), V.ref o)] := rfl
    rw [e1]
    have s2 : ∀ b u, H b = some u → b ≠ x → (upd H1 x (.ins CW dx [("parts", .ref o)])) b = some u := fun b u h ne => by rw [upd_ne ne]; exact s1 _ _ h
    have ox : o ≠ x := fun e => by rw [e, hx] at no; cases no
    have mx : m ≠ x := fun e => by rw [← e, hP.2] at hx; cases hx
    have hx2 : (upd H1 x (.ins CW dx [("parts", .ref o)])) x = some (.ins CW dx [("parts", .ref o)]) := upd_same
    obtain ⟨as, hal, ho, hA⟩ : ∃ as : List Addr, as.length = (knDs g).length ∧ H1 o = some (.lst (as.map V.ref)) ∧ ∀ p2 ∈ as, H p2 = none ∧ (∃ dx2, H1 p2 = some (.ins CP dx2 (pF (.str "") (.bl false) (.ref m)))) ∧ H1 m = some (.dK (natKV g)) ∧ g ≠ [] := by
      rcases hc with ⟨e, h⟩ | ⟨e, p2, n2, h, h2, h3⟩
      · have e0 : g = [] := List.map_eq_nil_iff.mp e
        exact ⟨[], by unfold knDs; rw [if_pos e0]; rfl, h, by intro p hp; cases hp⟩
      · have e0 : g ≠ [] := fun z => e (by rw [z]; rfl)
        refine ⟨[p2], by unfold knDs; rw [if_neg e0]; rfl, h, fun p hp => ?_⟩
        rw [List.mem_singleton.mp hp]
        exact ⟨n2, h2, h3, e0⟩
    have ho2 : (upd H1 x (.ins CW dx [("parts", .ref o)])) o = some (.lst (as.map V.ref)) := by rw [upd_ne ox]; exact ho
    have hA2 : ∀ p2 ∈ as, (∃ dx2, (upd H1 x (.ins CW dx [("parts", .ref o)])) p2 = some (.ins CP dx2 (pF (.str "") (.bl false) (.ref m)))) ∧ (upd H1 x (.ins CW dx [("parts", .ref o)])) m = some (.dK (natKV g)) ∧ p2 ≠ x ∧ g ≠ [] := fun p2 hp => by
      obtain ⟨n2, ⟨dx2, h2⟩, h3, h4⟩ := hA p2 hp
      have px : p2 ≠ x := fun e => by rw [e, hx] at n2; cases n2
      exact ⟨⟨dx2, by rw [upd_ne px]; exact h2⟩, by rw [upd_ne mx]; exact h3, px, h4⟩
    generalize upd H1 x (.ins CW dx [("parts", .ref o)]) = H2 at s2 hx2 ho2 hA2 ⊢
    refine ⟨_, rfl, x, CW, dx, _, _, rfl, hx2, W.cl, W.nP, lk1, o, rfl, ⟨_, SqL.of ho2⟩, fun D nD => ?_⟩
    refine lc_list (K := K) (a := o) (xs := as.map V.ref) (fun i H3 => Same H2 H3 ∧ H3 D = some (.lst [])) ⟨same_upd nD, upd_same⟩ (fun i H3 _ ⟨s3, _⟩ => SqL.of (s3 _ _ ho2)) ?_ ?_
    · rintro i y H3 hi ⟨s3, h3⟩
      obtain ⟨p2, hp2, rfl⟩ : ∃ p2 ∈ as, y = V.ref p2 := by
        obtain ⟨p2, h, e⟩ := List.mem_map.mp (List.mem_of_getElem? hi)
        exact ⟨p2, h, e.symm⟩
      obtain ⟨⟨dx2, h2⟩, _⟩ := hA2 p2 hp2
      exact ⟨rfl, _, rfl, p2, CP, dx2, _, _, rfl, s3 _ _ h2, WP.cl, WP.nN, pF_name _ _ _, false, ⟨by decide +kernel, by decide +kernel⟩, iteF ⟨s3, h3⟩⟩
    · rintro H3 ⟨s3, h3⟩
      refine ⟨_, rfl, D, [], rfl, SqL.of h3, by show 0 < 63; decide, fun zs Z z1 z2 z3 z4 nZ => ?_⟩
      have ez : zs = [] := by
        match zs, z3 with
        | [], _ => rfl
        | y :: ys, h => exact absurd ((h y).mp List.mem_cons_self) (by simp)
      subst ez
      have sZ : Same H2 (upd H3 Z (.lst (([] : List Str).map V.str))) := s3.trans (same_upd nZ)
      have hZ : (upd H3 Z (.lst (([] : List Str).map V.str))) Z = some (.lst []) := upd_same
      generalize upd H3 Z (.lst (([] : List Str).map V.str)) = H4 at sZ hZ ⊢
      refine ⟨Z, rfl, ⟨_, SqL.of hZ⟩, fun D2 nD2 => ?_⟩
      refine dc_walk (walk_list (K := K) (a := Z) (xs := [])) (H1 := H4) (fun i H5 => Same H4 H5 ∧ H5 D2 = some (.dK [])) ⟨same_upd nD2, upd_same⟩ (fun i H5 _ ⟨s5, _⟩ => SqL.of (s5 _ _ hZ)) ?_ ?_
      · rintro i y H5 H6 hi
        exact absurd hi (Nat.not_lt_zero _)
      · rintro H5 ⟨s5, h5⟩
        have sE := sZ.trans s5
        have D2x : D2 ≠ x := fun e => by rw [e, sZ _ _ hx2] at nD2; cases nD2
        refine ⟨_, rfl, x, CW, dx, _, rfl, sE _ _ hx2, W.cl, W.nK, (by show 1 < 1000; decide), q _ (fun b u hb ne => ?_) ?_⟩
        · rw [upd_ne ne]
          exact sE _ _ (s2 _ _ hb ne)
        · have noD2 : H D2 = none := by
            cases e : H D2 with
            | none => rfl
            | some u =>
              have := sZ _ _ (s2 D2 u e D2x)
              rw [nD2] at this
              cases this
          refine ⟨dx, o, D2, as, upd_same, by rw [upd_ne ox]; exact sE _ _ ho2, by rw [upd_ne D2x]; exact h5, hal, no, noD2, fun p hp => (hA p hp).1, fun p2 hp2 => ?_⟩
          obtain ⟨⟨dx2, h2⟩, hm2, px, hg⟩ := hA2 p2 hp2
          exact ⟨⟨dx2, by rw [upd_ne px]; exact sE _ _ h2⟩, by rw [upd_ne mx]; exact sE _ _ hm2, hg⟩
/-! ### Word.known(rings) -/
abbrev s_Word_known : Stmt := inClass (top 19) 2
theorem sc_Word_known : FnScope ["rings"] ["rings"] (defScope s_Word_known) := ⟨rfl, rfl, rfl, by decide +kernel, rfl, by decide +kernel, by decide +kernel⟩

def spKnownK (K : PySem.W.Frag) (CP CW : Addr) : Sp := fun vs H Q _ => ∃ (a : Addr) (as : List Addr) (rs : List (List Nat)), vs = [.ref a] ∧ SqL K H a (as.map V.ref) ∧ Rg H as rs ∧ (∀ r ∈ rs, r ≠ []) ∧ rs.flatten.Nodup ∧ rs.flatten.length ≤ 1000 ∧
  ∀ (x m : Addr) (H' : Hp), Same H H' → H x = none → H m = none → WordK CP CW H H' x m (moved (pairs rs)) → Q (.ref x) H'
theorem ok_Word_knownK {f : Addr} {fd : FuncData} (F : Fun K "known" "Word.known" s_Word_known f fd) (D_moves_of : DefOk P w K mg base CX0 1 "moves_of" ["rings", "size"] [.non] (spMoves K)) (D_known_part : DefOk P w K mg base CX0 3 "known_part" ["moves"] [] (spKnownPart CP))
    (M_Word : MakeOk P w K mg base CX0 4 CW "Word" ["self", "parts", "kinds"] [] (spWdK K CP CW)) : FnOk P w K mg base CX0 6 f fd ["rings"] (spKnownK K CP CW) := by
  refine F.ok sc_Word_known (fun vs H Q E h => ?_) (fun cdv A outer s H vs Q E hr h => ?_)
  · obtain ⟨a, as, rs, rfl, _⟩ := h; rfl
  · obtain ⟨a, as, rs, rfl, hS, hg, hne, hnd, hl, q⟩ := h
    refine ⟨_, (pss_one (ps_ret (pe_mk' M_Word hr pass0 (pa_cons (pe_lst (pa_cons (pe_d D_known_part hr pass0 (pa_cons (pe_d D_moves_of hr pass0 (pa_cons (pv 0) pa_nil)) pa_nil)) pa_nil)) (pa_cons pe_dnewK pa_nil))))), ?_⟩
    have pl : (pairs rs).length = rs.flatten.length := by rw [← pairs_fst rs, List.length_map]
    refine ⟨_, rfl, a, .non, as, rs, rfl, hS, hg, .inl rfl, hne, hnd, hl, fun d H1 s1 nd hd => ?_⟩
    refine ⟨d, pairs rs, rfl, hd, by rw [pairs_fst]; exact hnd, by omega, fun p dx m H2 s2 np nm mp hp hm => ?_⟩
    have s2' := s1.trans s2
    refine ⟨by show 1 ≤ sizeLine; decide, fun L nL => ?_⟩
    have sL := same_upd (o := .lst [.ref p]) nL
    have hL : (upd H2 L (.lst [.ref p])) L = some (.lst [.ref p]) := upd_same
    have hpL := sL _ _ hp
    have hmL := sL _ _ hm
    have s3 := s2'.trans sL
    generalize upd H2 L (.lst [.ref p]) = H3 at hL hpL hmL s3 ⊢
    refine fun e ne x dx nx ndx nex => ?_
    have se := same_upd (o := .dK []) ne
    have s4 := s3.trans se
    have hL4 := se _ _ hL
    have hp4 := se _ _ hpL
    have hm4 := se _ _ hmL
    generalize upd H3 e (.dK []) = H4 at s4 hL4 hp4 hm4 nx ndx ⊢
    have s5 : Same H4 (upd (upd H4 dx (.own x)) x (.ins CW dx [])) := (same_upd ndx).trans (same_upd (by rw [upd_ne nex.symm]; exact nx))
    refine ⟨x, dx, L, e, p, m, _, rfl, upd_same, SqL.of (s5 _ _ hL4), ⟨⟨_, s5 _ _ hp4⟩, s5 _ _ hm4⟩, fun H5 k hW => ⟨rfl, ?_⟩⟩
    exact q x m H5 (s4.trans (Same.made nx ndx k)) (s4.free nx) (s1.free nm) (hW.older (s4.trans s5))
end
/-! ### moves_of with a ring that is none -/
def InSz (z : V) (x : Int) : Prop := z = .non ∨ ∃ n : Nat, z = nv n ∧ x < n
def RgI (H : Hp) (as : List Addr) (rs : List (List Int)) : Prop := as.length = rs.length ∧ ∀ (i : Nat) (b : Addr) (r : List Int), as[i]? = some b → rs[i]? = some r → H b = some (.lst (r.map V.int))
/-- the first ring that is none is number j -/
structure BadAt (z : V) (rs : List (List Int)) (j : Nat) : Prop where
  sz : z = .non ∨ ∃ n : Nat, z = nv n
  ne : ∀ (i : Nat) (r : List Int), i < j → rs[i]? = some r → r ≠ []
  nd : (rs.take j).flatten.Nodup
  ok : ∀ x ∈ (rs.take j).flatten, 0 ≤ x ∧ InSz z x
  few : rs.flatten.length ≤ 1000
  bad : ∃ b, rs[j]? = some b ∧ (b = [] ∨ ∃ (q : List Int) (x : Int) (r : List Int), b = q ++ x :: r ∧ ((rs.take j).flatten ++ q).Nodup ∧ (∀ y ∈ q, 0 ≤ y ∧ InSz z y) ∧ (x < 0 ∨ x ∈ (rs.take j).flatten ++ q ∨ ¬ InSz z x))
/-- the dict has just these keys -/
structure Keys (kv : List (Key × V)) (l : List Int) : Prop where
  iff : ∀ y : Int, valV kv (Sum.inl y) ≠ none ↔ y ∈ l
  len : kv.length ≤ l.length
theorem Keys.nil : Keys [] [] := ⟨fun y => ⟨fun h => absurd rfl h, fun h => by cases h⟩, Nat.le_refl _⟩
theorem Keys.put {kv : List (Key × V)} {l : List Int} (h : Keys kv l) (x : Int) (v : V) : Keys (putK kv (Sum.inl x) v) (l ++ [x]) := by
  refine ⟨fun y => ?_, ?_⟩
  · rw [valV_put]
    by_cases c : (Sum.inl y : Key) = Sum.inl x
    · rw [if_pos c]
      have e : y = x := Sum.inl.inj c
      exact ⟨fun _ => by rw [e]; simp, fun _ z => by cases z⟩
    · rw [if_neg c]
      have e : ¬ y = x := fun z => c (by rw [z])
      rw [h.iff y]
      simp [e]
  · have := length_putK kv (Sum.inl x) v
    have := h.len
    rw [List.length_append, List.length_singleton]
    omega
theorem take_flat {rs : List (List Int)} {i : Nat} {r : List Int} (h : rs[i]? = some r) : (rs.take (i + 1)).flatten = (rs.take i).flatten ++ r := by
  rw [List.take_add_one, h]
  simp
theorem flat_len_le (rs : List (List Int)) (i : Nat) : (rs.take i).flatten.length ≤ rs.flatten.length := by
  have e : rs.flatten = (rs.take i).flatten ++ (rs.drop i).flatten := by rw [← List.flatten_append, List.take_append_drop]
  rw [e, List.length_append]
  omega
theorem ring_len_le {rs : List (List Int)} {i : Nat} {r : List Int} (h : rs[i]? = some r) : (rs.take i).flatten.length + r.length ≤ rs.flatten.length := by
  have := flat_len_le rs (i + 1)
  rw [take_flat h, List.length_append] at this
  exact this
section
variable {P : Program} {w : World} {K : PySem.W.Frag} {mg : Str → Option Value} {base : Heap} {CR : Addr}
def spMovesX (K : PySem.W.Frag) (CR : Addr) : Sp := fun vs H Q E => ∃ (a : Addr) (z : V) (as : List Addr) (rs : List (List Int)) (j : Nat), vs = [.ref a, z] ∧ SqL K H a (as.map V.ref) ∧ RgI H as rs ∧ BadAt z rs j ∧
  ∀ (d : Addr) (H' : Hp), Same H H' → H' d = none → E (.ref CR) (some d) (upd H' d (.xd [("index", nv j)]))
theorem ok_moves_ofX {f : Addr} {fd : FuncData} (F : FunD K "moves_of" "moves_of" (defArgs s_moves_of) (defBody s_moves_of) (defScope s_moves_of) [.non] [] f fd) (T : Blt mg) (D_NoRing : ErrOk P w K mg base CX0 1 CR "NoRing" "index" "index") :
    FnOk P w K mg base (L2.CX P w) 3 f fd ["rings", "size"] (spMovesX K CR) := by
  refine F.ok sc_moves_of (fun vs H Q E h => ?_) (fun cdv A outer s H vs Q E hr h => ?_)
  · obtain ⟨a, z, as, rs, j, rfl, _⟩ := h; rfl
  · obtain ⟨a, z, as, rs, j0, rfl, hS, hg, hb0, q⟩ := h
    have hu := hu_of hr
    obtain ⟨bad, hbad, hcase⟩ := hb0.bad
    have hj0 : j0 < rs.length := (List.getElem?_eq_some_iff.mp hbad).1
    refine ⟨_, (pss_cons (ps_set (i := 2) sc_moves_of.nd rfl (.inl rfl) pe_dnewK)
    (pss_cons (ps_for (passes_of rfl) rfl (pi_enum (by rfl) T.enumerate (pa_cons (pv 0) pa_nil)) (pg_tup rfl (pgs_cons (pg_name (i := 3) sc_moves_of.nd rfl (.inl rfl)) (pgs_cons (pg_name (i := 4) sc_moves_of.nd rfl (.inl rfl)) pgs_nil))) (pss_cons (ps_if (pt_not (pt_truth (pv 4) (by intro _; rfl))) (pss_one (ps_raise rfl (takes_of rfl rfl rfl rfl) (pmk_err D_NoRing hr pass0 (pv 3)))) pss_nil)
    (pss_one (ps_for (passes_of rfl) rfl (pi_zip (by rfl) T.zip (pa_cons (pv 4) (pa_cons (pe_op op_cat (pe_slice sl_list (pv 4) (po_some pe_int) po_none) (pe_slice sl_list (pv 4) po_none (po_some pe_int))) pa_nil))) (pg_tup rfl (pgs_cons (pg_name (i := 5) sc_moves_of.nd rfl (.inl rfl)) (pgs_cons (pg_name (i := 6) sc_moves_of.nd rfl (.inl rfl)) pgs_nil))) (pss_cons (ps_if (PW.pt (pw_or (pt_cmpR op_lt (pv 5) pe_int (nomark _)) (pw_or (pt_cmp (pc_din hu (pv 5) (pv 2))) (pw_or1 (PW.pt (pw_and (pt_cmpR op_notN (pv 1) pe_non (nomark _)) (pw_and1 (pt_cmpR op_ge (pv 5) (pv 1) (nomark _))))))))) (pss_one (ps_raise rfl (takes_of rfl rfl rfl rfl) (pmk_err D_NoRing hr pass0 (pv 3)))) pss_nil)
    (pss_one (ps_dput hu (pv 2) (pv 5) (pv 6) rfl)))))))
    (pss_one (ps_ret (pv 2))))), ?_⟩
    intro d nd
    have s1 : Same H (upd H d (.dK [])) := same_upd nd
    refine ⟨.ref a, rfl, a, _, rfl, s1.seq hS, ?_⟩
    refine for_it (walk_enum (K := K) (a := a) (xs := as.map V.ref)) (fun i σ H1 => ∃ (v3 v4 v5 v6 : Option V) (kv : List (Key × V)), i ≤ j0 ∧ σ = [some (.ref a), some z, some (.ref d), v3, v4, v5, v6] ∧ Same H H1 ∧ H1 d = some (.dK kv) ∧ Keys kv (rs.take i).flatten)
      ⟨none, none, none, none, [], Nat.zero_le _, rfl, s1, upd_same, Keys.nil⟩ (fun i σ H1 _ ⟨_, _, _, _, _, _, _, s2, _⟩ => s2.seq hS) ?_ ?_
    · rintro i y σ H1 H2 hi ⟨v3, v4, v5, v6, kv, hij, rfl, s2, hd, hk⟩ ⟨T1, x1, x2, rfl, nT, rfl, f1, f2⟩
      have e1 : x1 = V.int (i : Nat) := (Option.some.inj f1).symm
      subst e1
      rw [List.length_map] at hi
      obtain ⟨b, hb⟩ : ∃ b, as[i]? = some b := ⟨as[i], List.getElem?_eq_getElem hi⟩
      have e2 : x2 = V.ref b := by
        have f3 : (as.map V.ref)[i]? = some x2 := f2
        rw [List.getElem?_map, hb] at f3
        exact (Option.some.inj f3).symm
      subst e2
      obtain ⟨r, hr'⟩ : ∃ r, rs[i]? = some r := ⟨rs[i]'(by rw [← hg.1]; exact hi), List.getElem?_eq_getElem _⟩
      have hbr := hg.2 i b r hb hr'
      have dT : d ≠ T1 := ne_of_none hd nT
      have s3 : Same H (upd H1 T1 (.tup [V.int (i : Nat), V.ref b])) := mutS s2 (s2.free nT)
      refine ⟨T1, _, rfl, SqT.of upd_same, rfl, _, _, rfl, _, _, rfl, rfl, ?_⟩
      have hB : SqL K (upd H1 T1 (.tup [V.int (i : Nat), V.ref b])) b (r.map V.int) := SqL.of (s3 _ _ hbr)
      have rlen := ring_len_le hr'
      have few := hb0.few
      by_cases re : r = []
      · -- an empty ring: the one that is none
        have ij : i = j0 := by
          by_cases c : i < j0
          · exact absurd re (hb0.ne i r c hr')
          · omega
        subst ij
        refine ⟨_, rfl, false, .inl ⟨_, hB, by rw [re]; rfl⟩, iteT ?_⟩
        exact ⟨_, rfl, fun d' nd' => q d' _ s3 nd'⟩
      · refine ⟨_, rfl, true, .inl ⟨_, hB, by cases r with | nil => exact absurd rfl re | cons x r => rfl⟩, iteF ?_⟩
        -- how far the ring is good
        obtain ⟨lim, hlim, hgood, hstop⟩ : ∃ lim, lim ≤ r.length ∧ (∀ (jj : Nat) (x : Int), jj < lim → r[jj]? = some x → 0 ≤ x ∧ InSz z x ∧ x ∉ (rs.take i).flatten ++ r.take jj) ∧
            ((lim = r.length ∧ i < j0) ∨ (i = j0 ∧ ∃ x, r[lim]? = some x ∧ (x < 0 ∨ x ∈ (rs.take i).flatten ++ r.take lim ∨ ¬ InSz z x))) := by
          by_cases c : i < j0
          · refine ⟨r.length, Nat.le_refl _, fun jj x hjj hx => ?_, .inl ⟨rfl, c⟩⟩
            obtain ⟨t, ht⟩ : ∃ t, (rs.take j0).flatten = (rs.take (i + 1)).flatten ++ t := by
              refine ⟨((rs.take j0).drop (i + 1)).flatten, ?_⟩
              have e : (rs.take j0).take (i + 1) = rs.take (i + 1) := by rw [List.take_take]; congr 1; omega
              rw [← e, ← List.flatten_append, List.take_append_drop]
            have hm : x ∈ (rs.take j0).flatten := by
              rw [ht, take_flat hr']
              exact List.mem_append_left _ (List.mem_append_right _ (List.mem_of_getElem? hx))
            refine ⟨(hb0.ok x hm).1, (hb0.ok x hm).2, ?_⟩
            have nd' := hb0.nd
            rw [ht, take_flat hr'] at nd'
            have nd2 := (List.nodup_append.mp nd').1
            have er : r = r.take jj ++ x :: r.drop (jj + 1) := by
              obtain ⟨hlt, ex⟩ := List.getElem?_eq_some_iff.mp hx
              rw [← ex, ← List.drop_eq_getElem_cons hlt, List.take_append_drop]
            rw [er, ← List.append_assoc] at nd2
            intro hin
            exact (List.nodup_append.mp nd2).2.2 _ hin _ List.mem_cons_self rfl
          · have ij : i = j0 := by omega
            subst ij
            have eb : r = bad := Option.some.inj (hr'.symm.trans hbad)
            rcases hcase with h | ⟨q', x, t, h, nd', okq, why⟩
            · exact absurd (eb.trans h) re
            · have er : r = q' ++ x :: t := eb.trans h
              refine ⟨q'.length, by rw [er, List.length_append]; omega, fun jj y hjj hy => ?_, .inr ⟨rfl, x, by rw [er]; simp, ?_⟩⟩
              · rw [er, List.getElem?_append_left hjj] at hy
                have hq := okq y (List.mem_of_getElem? hy)
                refine ⟨hq.1, hq.2, ?_⟩
                have tk : r.take jj = q'.take jj := by rw [er, List.take_append_of_le_length (by omega)]
                rw [tk]
                have eq' : q' = q'.take jj ++ y :: q'.drop (jj + 1) := by
                  obtain ⟨hlt, ex⟩ := List.getElem?_eq_some_iff.mp hy
                  rw [← ex, ← List.drop_eq_getElem_cons hlt, List.take_append_drop]
                rw [eq', ← List.append_assoc] at nd'
                intro hin
                exact (List.nodup_append.mp nd').2.2 _ hin _ List.mem_cons_self rfl
              · have tk : r.take q'.length = q' := by rw [er]; simp
                rw [tk]
                exact why
        -- zip(ring, ring[1:] + ring[:1])
        refine ⟨_, rfl, _, rfl, 1, rfl, b, _, rfl, hB, fun p1 np1 => ⟨_, rfl, 1, rfl, b, _, rfl, (same_upd np1).seq hB, fun p2 np2 => ?_⟩⟩
        rw [cutV_from1, cutV_to1]
        rw [cutV_from1] at np2
        have n12 : p1 ≠ p2 := ne_of_none (upd_same (H := upd H1 T1 _)) np2
        refine ⟨p1, p2, _, _, rfl, rfl, by rw [upd_ne n12]; exact upd_same, upd_same, Nat.le_trans (show _ ≤ 2000 from ?_) (by decide), fun p3 np3 => ?_⟩
        · rw [List.length_drop, List.length_take, List.length_map]
          omega
        have sA : Same (upd H1 T1 (.tup [V.int (i : Nat), V.ref b])) (upd (upd (upd (upd H1 T1 (.tup [V.int (i : Nat), V.ref b])) p1 (.lst ((r.map V.int).drop 1))) p2 (.lst ((r.map V.int).take 1))) p3 (.lst ((r.map V.int).drop 1 ++ (r.map V.int).take 1))) :=
          ((same_upd np1).trans (same_upd np2)).trans (same_upd np3)
        have hd4 := sA _ _ (show (upd H1 T1 (.tup [V.int (i : Nat), V.ref b])) d = some (.dK kv) by rw [upd_ne dT]; exact hd)
        have h34 : (upd (upd (upd (upd H1 T1 (.tup [V.int (i : Nat), V.ref b])) p1 (.lst ((r.map V.int).drop 1))) p2 (.lst ((r.map V.int).take 1))) p3 (.lst ((r.map V.int).drop 1 ++ (r.map V.int).take 1))) p3 = some (.lst ((r.map V.int).drop 1 ++ (r.map V.int).take 1)) := upd_same
        have hB4 := sA.seq hB
        have s4 := s3.trans sA
        generalize upd (upd (upd (upd H1 T1 (.tup [V.int (i : Nat), V.ref b])) p1 (.lst ((r.map V.int).drop 1))) p2 (.lst ((r.map V.int).take 1))) p3 (.lst ((r.map V.int).drop 1 ++ (r.map V.int).take 1)) = H5 at hd4 h34 hB4 s4 ⊢
        have wl : ((r.map V.int).drop 1 ++ (r.map V.int).take 1).length = r.length := by
          rw [List.length_append, List.length_drop, List.length_take, List.length_map]
          omega
        refine ⟨b, p3, _, _, rfl, hB4, SqL.of h34, ?_⟩
        have bd4 : H5 b = some (.lst (r.map V.int)) := s4 _ _ hbr
        refine for_it (walk_zip (K := K) (a := b) (b := p3) (xs := r.map V.int) (ys := (r.map V.int).drop 1 ++ (r.map V.int).take 1) (n := r.length) (by rw [wl, List.length_map]; omega))
          (fun jj σ H3 => ∃ (v5 v6 : Option V) (kv : List (Key × V)), jj ≤ lim ∧ σ = [some (.ref a), some z, some (.ref d), some (V.int (i : Nat)), some (.ref b), v5, v6] ∧ Same H H3 ∧ H3 b = some (.lst (r.map V.int)) ∧ H3 p3 = some (.lst ((r.map V.int).drop 1 ++ (r.map V.int).take 1)) ∧ H3 d = some (.dK kv) ∧ Keys kv ((rs.take i).flatten ++ r.take jj))
          ⟨v5, v6, kv, Nat.zero_le _, rfl, s4, bd4, h34, hd4, by rw [List.take_zero, List.append_nil]; exact hk⟩ (fun jj σ H3 _ ⟨_, _, _, _, _, _, h3, h4, _⟩ => ⟨SqL.of h3, SqL.of h4⟩) ?_ ?_
        · rintro jj y σ H3 H4 hjj ⟨v5, v6, kv, hl, rfl, s5, hb5, h5, hd5, hk5⟩ ⟨T2, x1, x2, rfl, nT2, rfl, g1, g2⟩
          obtain ⟨x, hx, rfl⟩ := of_int_get g1
          have dT2 : d ≠ T2 := ne_of_none hd5 nT2
          have bT2 : b ≠ T2 := ne_of_none hb5 nT2
          have pT2 : p3 ≠ T2 := ne_of_none h5 nT2
          have hd6 : (upd H3 T2 (.tup [V.int x, x2])) d = some (.dK kv) := by rw [upd_ne dT2]; exact hd5
          have s6 : Same H (upd H3 T2 (.tup [V.int x, x2])) := mutS s5 (s5.free nT2)
          refine ⟨T2, _, rfl, SqT.of upd_same, rfl, _, _, rfl, _, _, rfl, rfl, ?_⟩
          by_cases good : jj < lim
          · obtain ⟨g0, gz, gn⟩ := hgood jj x good hx
            have hno : valV kv (Sum.inl x) = none := by
              cases e : valV kv (Sum.inl x) with
              | none => rfl
              | some v => exact absurd ((hk5.iff x).mp (by rw [e]; intro z; cases z)) gn
            refine ⟨_, rfl, _, _, rfl, rfl, _, rfl, decF (by omega) ?_⟩
            refine ⟨_, rfl, _, rfl, d, none, rfl, .inl ⟨_, _, .of hd6, rfl, hno.symm⟩, _, rfl, iteF ?_⟩
            have bd : b ≠ d := ne_of_none hbr nd
            have pd : p3 ≠ d := fun e => by rw [e, hd5] at h5; cases h5
            have fin : ∀ D : Ends, D.nx = (fun σ H3 => ∃ (v5 v6 : Option V) (kv : List (Key × V)), jj + 1 ≤ lim ∧ σ = [some (.ref a), some z, some (.ref d), some (V.int (i : Nat)), some (.ref b), v5, v6] ∧ Same H H3 ∧ H3 b = some (.lst (r.map V.int)) ∧ H3 p3 = some (.lst ((r.map V.int).drop 1 ++ (r.map V.int).take 1)) ∧ H3 d = some (.dK kv) ∧ Keys kv ((rs.take i).flatten ++ r.take (jj + 1))) →
                sDPut (tVar 2) (tVar 5) (tVar 6) D [some (.ref a), some z, some (.ref d), some (V.int (i : Nat)), some (.ref b), some (V.int x), some x2] (upd H3 T2 (.tup [V.int x, x2])) := fun D hD => by
              refine ⟨_, rfl, _, rfl, _, rfl, d, _, rfl, DPut.k (k := Sum.inl x) hd6 ?_, ?_⟩
              · have := hk5.len
                rw [List.length_append, List.length_take] at this
                exact small64 (by omega)
              · rw [hD]
                refine ⟨_, _, _, by omega, rfl, mutS s6 nd, by rw [upd_ne bd, upd_ne bT2]; exact hb5, by rw [upd_ne pd, upd_ne pT2]; exact h5, upd_same, ?_⟩
                rw [List.take_add_one, hx, ← List.append_assoc]
                exact hk5.put x x2
            rcases gz with rfl | ⟨n, rfl, hn⟩
            · exact ⟨_, rfl, rfl, _, rfl, iteF (iteF (fin _ rfl))⟩
            · exact ⟨_, rfl, rfl, _, rfl, iteT ⟨_, rfl, _, rfl, _, _, rfl, rfl, _, rfl, decF (by omega) (fin _ rfl)⟩⟩
          · have jl : jj = lim := by omega
            subst jl
            rcases hstop with ⟨e, _⟩ | ⟨ij, x', hx', why⟩
            · omega
            · have ex : x' = x := V.int.inj (by
                have h1 : (r.map V.int)[jj]? = some (V.int x') := by rw [List.getElem?_map, hx']; rfl
                have h2 : (r.map V.int)[jj]? = some (V.int x) := by rw [List.getElem?_map, hx]; rfl
                exact Option.some.inj (h1.symm.trans h2))
              subst ex
              subst ij
              by_cases neg : x' < 0
              · exact ⟨_, rfl, _, _, rfl, rfl, _, rfl, decT neg (iteT ⟨_, rfl, fun d' nd' => q d' _ s6 nd'⟩)⟩
              · refine ⟨_, rfl, _, _, rfl, rfl, _, rfl, decF neg ?_⟩
                by_cases mem : x' ∈ (rs.take i).flatten ++ r.take jj
                · obtain ⟨v, hv⟩ : ∃ v, valV kv (Sum.inl x') = some v := by
                    cases e : valV kv (Sum.inl x') with
                    | some v => exact ⟨v, rfl⟩
                    | none => exact absurd e ((hk5.iff x').mpr mem)
                  exact ⟨_, rfl, _, rfl, d, some v, rfl, .inl ⟨_, _, .of hd6, rfl, hv.symm⟩, _, rfl, iteT (iteT ⟨_, rfl, fun d' nd' => q d' _ s6 nd'⟩)⟩
                · have hno : valV kv (Sum.inl x') = none := by
                    cases e : valV kv (Sum.inl x') with
                    | none => rfl
                    | some v => exact absurd ((hk5.iff x').mp (by rw [e]; intro z; cases z)) mem
                  refine ⟨_, rfl, _, rfl, d, none, rfl, .inl ⟨_, _, .of hd6, rfl, hno.symm⟩, _, rfl, iteF ?_⟩
                  rcases hb0.sz with rfl | ⟨n, rfl⟩
                  · rcases why with h | h | h
                    · exact absurd h neg
                    · exact absurd h mem
                    · exact absurd (.inl rfl) h
                  · have nx : (n : Int) ≤ x' := by
                      rcases why with h | h | h
                      · exact absurd h neg
                      · exact absurd h mem
                      · apply Classical.byContradiction
                        intro hc
                        exact h (.inr ⟨n, rfl, by omega⟩)
                    exact ⟨_, rfl, rfl, _, rfl, iteT ⟨_, rfl, _, rfl, _, _, rfl, rfl, _, rfl, decT nx ⟨_, rfl, fun d' nd' => q d' _ s6 nd'⟩⟩⟩
        · rintro σ H3 ⟨v5, v6, kv, hl, rfl, s5, hb5, h5, hd5, hk5⟩
          have lr : lim = r.length := by omega
          rcases hstop with ⟨_, ij⟩ | ⟨_, x, hx, _⟩
          · refine ⟨_, _, v5, v6, kv, by omega, rfl, s5, hd5, ?_⟩
            rw [take_flat hr']
            rw [List.take_length] at hk5
            exact hk5
          · rw [lr, List.getElem?_eq_none (Nat.le_refl _)] at hx
            cases hx
    · rintro σ H1 ⟨v3, v4, v5, v6, kv, hij, rfl, s2, hd, hk⟩
      rw [List.length_map, hg.1] at hij
      omega
end
section
variable {P : Program} {w : World} {K : PySem.W.Frag} {mg : Str → Option Value} {base : Heap} {CP CW CR : Addr}
/-! ### Word.known refused -/
def spKnownX (K : PySem.W.Frag) (CR : Addr) : Sp := fun vs H Q E => ∃ (a : Addr) (as : List Addr) (rs : List (List Int)) (j : Nat), vs = [.ref a] ∧ SqL K H a (as.map V.ref) ∧ RgI H as rs ∧ BadAt .non rs j ∧
  ∀ (d : Addr) (H' : Hp), Same H H' → H' d = none → E (.ref CR) (some d) (upd H' d (.xd [("index", nv j)]))
theorem ok_Word_knownX {f : Addr} {fd : FuncData} (F : Fun K "known" "Word.known" s_Word_known f fd) (D_moves_of : DefOk P w K mg base (L2.CX P w) 3 "moves_of" ["rings", "size"] [.non] (spMovesX K CR)) (D_known_part : DefOk P w K mg base CX0 3 "known_part" ["moves"] [] (spKnownPart CP))
    (M_Word : MakeOk P w K mg base CX0 4 CW "Word" ["self", "parts", "kinds"] [] (spWdK K CP CW)) : FnOk P w K mg base (L2.CX P w) 6 f fd ["rings"] (spKnownX K CR) := by
  refine F.okX sc_Word_known (fun vs H Q E h => ?_) (fun cdv A outer s H vs Q E hr h => ?_)
  · obtain ⟨a, as, rs, j, rfl, _⟩ := h; rfl
  · obtain ⟨a, as, rs, j, rfl, hS, hg, hb, q⟩ := h
    refine ⟨_, (pss_one (ps_ret (pe_mk' M_Word hr pass0 (pa_cons (pe_lst (pa_cons (pe_d D_known_part hr pass0 (pa_cons (pe_d D_moves_of hr (passes_call (takes_of rfl rfl rfl rfl) (fun _ _ _ _ h => h)) (pa_cons (pv 0) pa_nil)) pa_nil)) pa_nil)) (pa_cons pe_dnewK pa_nil))))), ?_⟩
    exact ⟨_, rfl, a, .non, as, rs, j, rfl, hS, hg, hb, q⟩
abbrev s_l_no_known : Stmt := top 43
theorem sc_l_no_known : FnScope ["_law_rings_here", "e"] ["_law_rings_here"] (defScope s_l_no_known) := ⟨rfl, rfl, rfl, by decide +kernel, rfl, by decide +kernel, by decide +kernel⟩

def spNoKnown (K : PySem.W.Frag) : Sp := fun vs H Q _ => ∃ (a : Addr) (as : List Addr) (rs : List (List Int)) (j : Nat), vs = [.ref a] ∧ SqL K H a (as.map V.ref) ∧ RgI H as rs ∧ BadAt .non rs j ∧ ∀ H' : Hp, Same H H' → Q (nv j) H'
theorem ok_l_no_known {f : Addr} {fd : FuncData} (F : Fun K "_law_no_known" "_law_no_known" s_l_no_known f fd) (gW : mg "Word" = some (.ref CW)) (eR : ErrC K CR) (gR : mg "NoRing" = some (.ref CR)) (nR : PySem.W.findIn K (.ref CR) "index" = some none)
    (exm : PySem.W.exmOne K (.ref CR) (.ref CR) = some true) (S_Word_known : StatOk P w K mg base (L2.CX P w) 6 CW "known" ["rings"] [] (spKnownX K CR)) : FnOk P w K mg base CX0 8 f fd ["_law_rings_here"] (spNoKnown K) := by
  refine F.ok sc_l_no_known (fun vs H Q E h => ?_) (fun cdv A outer s H vs Q E hr h => ?_)
  · obtain ⟨a, as, rs, j, rfl, _⟩ := h; rfl
  · obtain ⟨a, as, rs, j, rfl, hS, hg, hb, q⟩ := h
    refine ⟨_, pss_cons (ps_try_as (i := 1) (tb := fun W => tDrop (tStatS CW (spKnownX K CR) (WE W) (tC (.ref CW)) (tCons (tVar 0) tNil))) (ts := fun a cls d => tRet (tXf a cls d CR "index" (tVar 1))) (Wout := fun _ _ _ _ => False)
        rfl rfl sc_l_no_known.nd rfl rfl ⟨rfl, by decide, Or.inl gR⟩ takes0
        (fun W pn xe tk _ => pss_one (ps_expr (by exact (pe_statS S_Word_known hr (fun σ => passAt tk σ) (pe_glob (v := .ref _) rfl gW rfl) (pa_cons (pv 0) pa_nil)))))
        (fun a oe cls d pn hz hf => pss_one (ps_ret (by exact (pe_xf eR.xf nR hz hf (pv 1))))))
      (pss_one ps_never), ?_⟩
    refine ⟨rfl, _, rfl, a, as, rs, j, rfl, hS, hg, hb, fun d H1 s1 nd => ?_⟩
    refine ⟨true, exm, fun _ a0 _ => ?_, fun q => Bool.noConfusion q⟩
    exact ⟨_, rfl, rfl, rfl, d, _, _, rfl, upd_same, lk1, q _ (s1.trans (same_upd nd))⟩
end
section
variable {X : Cx} {st : Stmt} {t : TS}
/-- the statement, and what holds behind it whichever way it went -/
def tJoin (t : TS) : TS := fun D σ H => ∃ J : L2.St → Hp → Prop, t { D with nx := J } σ H ∧ ∀ σ' H', J σ' H' → D.nx σ' H'
theorem ps_join (h : PS X st t) : PS X st (tJoin t) := by
  refine ⟨fun pins s σ H D I hw => ?_⟩
  obtain ⟨J, ht, hj⟩ := hw
  refine wpAny_mono (h.run pins s σ H { D with nx := J } I ht) (fun fl s1 sp => ?_) fun _ _ z => z
  match fl, sp with
  | .next, ⟨σ', H', I', q⟩ => exact ⟨σ', H', I', hj σ' H' q⟩
  | .brk, sp => exact sp
  | .cont, sp => exact sp
  | .ret u, sp => exact sp
end
section
variable {P : Program} {w : World} {K : PySem.W.Frag} {mg : Str → Option Value} {base : Heap}
/-! ### properties -/
def PropOk (P : Program) (w : World) (K : PySem.W.Frag) (mg : Str → Option Value) (base : Heap) (k : Nat) (C : Addr) (f : Str) (sp : Sp) : Prop := ∃ (p g : Addr) (fd : FuncData), PropOf K C f p g ∧ L2.Binds K fd ["self"] [] ∧ FnOk P w K mg base CX0 k g fd ["self"] sp
theorem pe_propD {X : Cx} {k : Nat} {C : Addr} {f : Str} {sp : Sp} {e : Expr} {pos : Pos} {ta : TE} (D : PropOk X.prog X.w X.K X.mg X.base k C f sp) (cl : Cls X.K C) (hr : Room (k + 1) X.A) (he : PE X e ta)
    (hb : attributeBase e f X.env (eval e X.env) = eval e X.env := by rfl) : PE X (.Attribute e f pos) (tProp C sp [] E0 ta) := by
  obtain ⟨p, g, fd, hp, hbn, F⟩ := D
  exact pe_prop he cl hp F hr hbn .nil (fun _ _ _ _ _ _ _ h => h.elim) hb
end
section
variable {P : Program} {w : World} {K : PySem.W.Frag} {mg : Str → Option Value} {base : Heap} {CP CW CN CK CM : Addr}
/-! ### _law_holds_one -/
theorem eqStrs (ws : List Str) : PyData.eqv (.list (ws.map PyData.str)) (.list (ws.map PyData.str)) = true := by
  rw [PyData.eqv]
  induction ws with
  | nil => rfl
  | cons x ws ih =>
    have : PyData.eqv (.str x) (.str x) = true := by
      rw [PyData.eqv]
      exact beq_self_eq_true x
    rw [List.map_cons, PyData.eqvAll, this, ih]
    rfl
abbrev s_l_holds_one : Stmt := top 44
theorem sc_l_holds_one : FnScope ["_law_name_here", "_law_kind_here", "_law_bound", "_law_word", "_law_told"] ["_law_name_here", "_law_kind_here", "_law_bound"] (defScope s_l_holds_one) := ⟨rfl, rfl, rfl, by decide +kernel, rfl, by decide +kernel, by decide +kernel⟩

def gHole1 : List V → List V → List V := fun vs _ => vs ++ [.str "wire"] ++ [.non]
def spHoldsOne : Sp := fun vs H Q _ => ∃ (t kd : Str) (m : Option Int), vs = [.str t, .str kd, optV m] ∧ t.length ≤ 1000 ∧ Good t ∧ (∀ i, m = some i → i.natAbs < 10 ^ 20) ∧ isNm t = true ∧ isKd kd = true ∧ (∀ i, m = some i → 0 ≤ i ∧ kd = "swaps") ∧ ∀ H' : Hp, Same H H' → Q (.bl true) H'
set_option maxHeartbeats 1000000 in
theorem ok_l_holds_one {f : Addr} {fd : FuncData} (F : Fun K "_law_holds_one" "_law_holds_one" s_l_holds_one f fd) (T : Blt mg) (str : mg "str" = none) (gW : mg "Word" = some (.ref CW)) (IW : IsTxt K CW) (W : WdTxt K CW)
    (hne : PySem.W.findIn K (.ref CW) "__ne__" = some (some (.builtin "object.__ne__"))) (hmr : PySem.W.mroIn K CW (.type "object") = some true)
    (S_hole : StatKOk P w K mg base (L2.CX P w) 6 CW "hole" ["name", "kind", "most"] 2 ["most"] gHole (spHole K CP CW CN CK CM)) (S_hole1 : StatKOk P w K mg base (L2.CX P w) 6 CW "hole" ["name", "kind", "most"] 1 [] gHole1 (spHole K CP CW CN CK CM))
    (D_holes : PropOk P w K mg base 1 CW "holes" (spHoles CP CW)) (D_kinds : PropOk P w K mg base 1 CW "kinds" (spKinds CP CW)) (D_named : PropOk P w K mg base 1 CW "named" (spNamed CP CW))
    (D_Word_eq : MethOk P w K mg base CX0 4 CW "__eq__" ["self", "other"] [] (spWEq CP CW)) (D_Word_len : MethOk P w K mg base CX0 1 CW "__len__" ["self"] [] (spWLen CP CW)) (D_Word_str : MethOk P w K mg base CX0 4 CW "__str__" ["self"] [] (spWStr CP CW)) :
    FnOk P w K mg base CX0 8 f fd ["_law_name_here", "_law_kind_here", "_law_bound"] spHoldsOne := by
  refine F.ok sc_l_holds_one (fun vs H Q E h => ?_) (fun cdv A outer s H vs Q E hr h => ?_)
  · obtain ⟨t, kd, m, rfl, _⟩ := h; rfl
  · obtain ⟨t, kd, m, rfl, htl, hG, hm, hn, hk, hmk, q⟩ := h
    have hu2 : (A.deeper (envOfC "_law_holds_one" (defScope s_l_holds_one) s.heap.objs.size f cdv)).units + 64 < cLine := by have := hr.un; omega
    refine ⟨_, (pss_cons (ps_set (i := 3) sc_l_holds_one.nd rfl (.inl rfl) (pe_statK (n := 2) (ks := ["most"]) (E := fun _ => E0) S_hole hr (fun σ pins H s e s2 I h => L2.passL pins σ H s e s2 I h) (pe_glob (v := .ref _) rfl gW rfl) (pa_cons (pv 0) (pa_cons (pv 1) pa_nil)) (pk_cons (pv 2) pk_nil)))
    (pss_cons (ps_set (i := 4) sc_l_holds_one.nd rfl (.inl rfl) (pv 1))
    (pss_cons (ps_join (ps_if (pt_cmpR op_notN (pv 2) pe_non (nomark _)) (pss_one (ps_set (i := 4) sc_l_holds_one.nd rfl (.inl rfl) (pe_op op_addS (pe_op op_addS (pv 1) pe_str) (pe_callTy call_strI (by rfl) str (by decide +kernel) (pa_cons (pv 2) pa_nil))))) pss_nil))
    (pss_cons (ps_if (PW.pt (pw_or (pt_not (pt_truth (pe_callB call_isi (by rfl) T.isinstance (by decide +kernel) (pa_cons (pv 3) (pa_cons (pe_glob (v := .ref _) rfl gW rfl) pa_nil))) (by intro _; rfl))) (pw_or (pt_cmpR (op_neD hu2) (pe_propD D_holes W.cl (hr.mono (by decide)) (pv 3)) (pe_lst (pa_cons (pv 0) pa_nil)) (nomark _)) (pw_or1 (pt_cmpR (op_ne_dictA (Nat.lt_of_le_of_lt (Nat.le_add_right _ 64) hu2)) (pe_propD D_kinds W.cl (hr.mono (by decide)) (pv 3)) (pe_disp (pps_cons (pv 0) (pv 4) pps_nil) (by rfl) (by rfl) (fun z => by cases z) (by decide)) (nomark _)))))) (pss_one (ps_ret pe_bl)) pss_nil)
    (pss_cons (ps_join (ps_if (PW.pt (pw_and (pt_cmpR op_eq (pv 1) pe_str (nomark _)) (pw_and1 (pt_cmpR (op_neOwn D_Word_eq hne hmr hr pass0) (pe_statK (n := 1) (ks := []) (E := fun _ => E0) S_hole1 hr (fun σ pins H s e s2 I h => L2.passL pins σ H s e s2 I h) (pe_glob (v := .ref _) rfl gW rfl) (pa_cons (pv 0) pa_nil) pk_nil) (pv 3) (nomark _))))) (pss_one (ps_ret pe_bl)) pss_nil))
    (pss_one (ps_ret (pe_and (pe_cmpR op_eq (pe_callB (call_lenOwn D_Word_len hr pass0) (by rfl) T.len PySem.boot_len (pa_cons (pv 3) pa_nil)) pe_int (nomark _)) (pe_and (pe_cmpR (op_eqD hu2) (pe_propD D_named W.cl (hr.mono (by decide)) (pv 3)) (pe_lst pa_nil) (nomark _)) (pe_one (pe_cmpR op_eq (pe_callTy (call_strOwn D_Word_str hr pass0) (by rfl) str (by decide +kernel) (pa_cons (pv 3) pa_nil)) (pv 0) (nomark _)))))))))))), ?_⟩
    refine ⟨rfl, _, rfl, _, rfl, _, rfl, rfl, rfl, t, kd, m, rfl, htl, hG, hm, .inr (.inr (.inr ⟨hn, hk, hmk, fun x H1 s1 nx hW => ?_⟩))⟩
    have h0 := hW.at_
    have hbound : ∀ i, m = some i → i.natAbs < 10 ^ 20 := hm
    refine ⟨_, rfl, ?_⟩
    refine ⟨fun σ H2 => σ = [some (.str t), some (.str kd), some (optV m), some (.ref x), some (.str (kdOf kd m))] ∧ Same H1 H2, ?_, ?_⟩
    · cases m with
      | none =>
        refine ⟨_, rfl, rfl, _, rfl, ?_⟩
        exact iteF ⟨rfl, Same.refl _⟩
      | some i =>
        refine ⟨_, rfl, rfl, _, rfl, ?_⟩
        have l1 : ((" " : Str)).length = 1 := by decide +kernel
        have l5 : (("swaps" : Str)).length = 5 := by decide +kernel
        have li := int_tx_len (hm i rfl)
        obtain ⟨_, ekd⟩ := hmk i rfl
        subst ekd
        refine iteT ⟨_, rfl, _, _, rfl, rfl, by rw [l1, l5, sizeLine_eq]; omega, _, rfl, i, rfl, log2_small (hm i rfl), _, _, rfl, rfl, by rw [app_len, l1, l5, sizeLine_eq]; omega, ?_⟩
        refine ⟨?_, Same.refl _⟩
        have e : (("swaps" : Str) ++ (" " : Str)) = Str.empty ++ ("swaps " : Str) := by decide +kernel
        show [some (.str t), some (.str "swaps"), some (.int i), some (.ref x), some (V.str ((("swaps" : Str) ++ (" " : Str)) ++ Str.ofString (toString i)))] = _
        rw [e]
        rfl
    · rintro σ H2 ⟨rfl, s2⟩
      have hW2 := h0.mono s2
      obtain ⟨dx, o, d, as, g1, g2, g3, g4⟩ := id hW2
      refine ⟨_, rfl, .ref x, .ref CW, .ref CW, .ref CW, true, rfl, .own CW, IW.ty g1, kit_self, true, rfl, ?_⟩
      refine ⟨_, rfl, x, dx, _, rfl, g1, x, _, _, rfl, hW2, fun oh H3 s3 noh hoh => ?_⟩
      refine ⟨_, rfl, by show 1 ≤ sizeLine; decide, fun L nL => ?_⟩
      have sL := same_upd (o := .lst [V.str t]) nL
      have hW4 := (hW2.mono s3).mono sL
      have g4' := sL _ _ (s3 _ _ g1)
      have hoh4 := sL _ _ hoh
      have hL : (upd H3 L (.lst [V.str t])) L = some (.lst ([t].map V.str)) := upd_same
      have s04 := (s2.trans s3).trans sL
      generalize upd H3 L (.lst [V.str t]) = H4 at hW4 g4' hoh4 hL s04 ⊢
      refine ⟨_, _, dpStrs (ws := [t]) (SqL.of hoh4), dpStrs (ws := [t]) (SqL.of hL), shStrs (by intro w hw; rw [List.mem_singleton.mp hw]; exact hG), shStrs (by intro w hw; rw [List.mem_singleton.mp hw]; exact hG), ?_⟩
      rw [eqStrs]
      refine ⟨false, rfl, iteF ?_⟩
      refine ⟨_, rfl, x, dx, _, rfl, g4', x, _, _, rfl, hW4, fun ok H5 s5 nok hok => ?_⟩
      refine fun D nD => ⟨_, rfl, _, rfl, upd_same, [(Sum.inr t, .str (kdOf kd m))], rfl, (by show 1 ≤ 15; decide), ?_⟩
      rw [upd_upd]
      have sD := same_upd (o := .dK (mergeK [] [(Sum.inr t, V.str (kdOf kd m))])) nD
      have hW6 := (hW4.mono s5).mono sD
      have hok6 := sD _ _ hok
      have hD : (upd H5 D (.dK (mergeK [] [(Sum.inr t, V.str (kdOf kd m))]))) D = some (.dK (kV2 [(t, kdOf kd m)])) := upd_same
      have s06 := (s04.trans s5).trans sD
      generalize upd H5 D (.dK (mergeK [] [(Sum.inr t, V.str (kdOf kd m))])) = H6 at hW6 hok6 hD s06 ⊢
      refine ⟨ok, D, _, _, rfl, rfl, hok6, hD, rfl, kv2_self (by show [t].Nodup; simp), false, rfl, iteF ?_⟩
      refine ⟨fun σ H7 => σ = [some (.str t), some (.str kd), some (optV m), some (.ref x), some (.str (kdOf kd m))] ∧ Same H6 H7, ?_, ?_⟩
      · refine ⟨_, rfl, rfl, _, rfl, ?_⟩
        by_cases c : kd = "wire"
        · have e : decide (V.str kd = V.str "wire") = true := decide_eq_true (by rw [c])
          rw [e]
          have em : m = none := by
            cases m with
            | none => rfl
            | some i => exact absurd ((hmk i rfl).2.symm.trans c) (by decide +kernel)
          refine iteT ⟨rfl, _, rfl, rfl, rfl, t, "wire", none, rfl, htl, hG, (by intro i h; cases h), .inr (.inr (.inr ⟨hn, by rw [← c]; exact hk, (by intro i h; cases h), fun x2 H7 s7 nx2 hW7 => ?_⟩))⟩
          have hWx := hW6.mono s7
          have e0 : kdOf kd m = "wire" := by rw [em, c]; rfl
          have hWy : WordAt CP CW H7 x2 [⟨t, false, []⟩] [(t, kdOf kd m)] := by rw [e0]; exact hW7.at_
          obtain ⟨dy, oy, dy2, asy, y1, _⟩ := id hWy
          obtain ⟨dx6, ox6, dx7, asx, x1, _⟩ := id hWx
          refine ⟨_, rfl, x2, dy, _, .ref CW, rfl, y1, IW.ty x1, by simp [PySem.W.notFirst], x2, x, _, _, rfl, hWy, hWx, (by intro q hq; rw [List.mem_singleton.mp hq]; exact List.nodup_nil), (by show [t].Nodup; simp), fun H8 s8 => ⟨true, rfl, false, rfl, iteF ⟨rfl, s7.trans s8⟩⟩⟩
        · have e : decide (V.str kd = V.str "wire") = false := decide_eq_false fun z => c (V.str.inj z)
          rw [e]
          exact iteF (iteF ⟨rfl, Same.refl _⟩)
      · rintro σ H7 ⟨rfl, s7⟩
        have hW7 := hW6.mono s7
        obtain ⟨dx6, ox6, dx7, asx, x1, _⟩ := id hW7
        have t0 := isNm_ne hn
        have us : usesL [⟨t, false, []⟩] = [⟨t, false, []⟩] := by unfold usesL; rw [List.filter_cons_of_pos (by simp [t0])]; rfl
        refine ⟨_, rfl, x, dx6, _, rfl, x1, x, _, _, rfl, hW7, by show 1 ≤ 10000; decide, (by intro q hq; rw [List.mem_singleton.mp hq]; exact htl), fun H8 s8 => ⟨1, by decide, by rw [us]; rfl, rfl, true, by rw [decide_eq_true (by rfl)], iteT ?_⟩⟩
        have hW8 := hW7.mono s8
        refine ⟨_, rfl, x, dx6, _, rfl, s8 _ _ x1, x, _, _, rfl, hW8, by show 0 ≤ 62; decide, fun on ns H9 s9 non hpw hmem hon => ⟨Nat.zero_le _, fun pz npz => ?_⟩⟩
        have e0 : ns = [] := by
          cases ns with
          | nil => rfl
          | cons z zs => obtain ⟨a, ha, _⟩ := (hmem z).mp List.mem_cons_self; cases ha
        subst e0
        have sz := same_upd (o := .lst []) npz
        refine ⟨_, _, dpI (l := []) (SqL.of (sz _ _ hon)), dpI (l := []) (SqL.of upd_same), shI [], shI [], true, by rw [eqI, decide_eq_true rfl], iteT ?_⟩
        have hWf := (hW8.mono s9).mono sz
        have s09 := (s8.trans s9).trans sz
        generalize upd H9 pz (.lst []) = H10 at hWf s09 ⊢
        refine ⟨_, rfl, x, dx6, _, rfl, s09 _ _ x1, x, _, _, [t], rfl, hWf, by show 1 ≤ 1000; decide, rfl, fun i q u e1 e2 => ?_, fun H11 s11 => ⟨_, rfl, _, rfl, rfl, ?_⟩⟩
        · match i, e1, e2 with
          | 0, e1, e2 =>
            cases e1
            cases e2
            exact .inl ⟨t0, htl, rfl⟩
          | i + 1, e1, _ => cases e1
        · have e : wdTx [t] = t := by unfold wdTx; rw [if_neg (by simp)]; rfl
          show Q (V.bl (decide (V.str (wdTx [t]) = V.str t))) H11
          rw [decide_eq_true (by rw [e])]
          exact q H11 ((((s1.trans s06).trans s7).trans s09).trans s11)
end
structure RingsOf (f : Nat → Nat) (n : Nat) (rs : List (List Nat)) : Prop where
  ne : ∀ r ∈ rs, r ≠ []
  nd : rs.flatten.Nodup
  lt : ∀ x ∈ rs.flatten, x < n
  fol : ∀ r ∈ rs, Follows f r
  stay : ∀ x, x < n → x ∉ rs.flatten → f x = x
theorem RingsOf.few {f : Nat → Nat} {n : Nat} {rs : List (List Nat)} (R : RingsOf f n rs) : rs.flatten.length ≤ n := nodup_le n _ R.nd R.lt
theorem ringsOf_perm {f : Nat → Nat} {n : Nat} (P : PermF f n) : RingsOf f n (rings f n) :=
  ⟨fun _ h => rings_ne P h, rings_nodup P, fun _ h => rings_lt P h, fun _ h => rings_follow P h, fun _ h1 h2 => rings_stay P h1 h2⟩
/-! ### rings of which one is none -/
def toI (r : List Nat) : List Int := r.map fun (x : Nat) => (x : Int)
theorem toI_flat (rs : List (List Nat)) : (rs.map toI).flatten = toI rs.flatten := by
  unfold toI
  rw [List.map_flatten]
theorem toI_nodup {l : List Nat} (h : l.Nodup) : (toI l).Nodup := by
  unfold toI
  exact List.Pairwise.map _ (fun a b e z => e (by omega)) h
theorem toI_mem {l : List Nat} {x : Int} : x ∈ toI l ↔ ∃ y, y ∈ l ∧ x = (y : Int) := by
  unfold toI
  rw [List.mem_map]
  exact ⟨fun ⟨y, h, e⟩ => ⟨y, h, e.symm⟩, fun ⟨y, h, e⟩ => ⟨y, h, e.symm⟩⟩
theorem take_flat_sub {rs : List (List Nat)} (i : Nat) : ∃ t, rs.flatten = (rs.take i).flatten ++ t := ⟨(rs.drop i).flatten, by rw [← List.flatten_append, List.take_append_drop]⟩
/-- good rings, then one that is none, then whatever -/
theorem bad_insN {f : Nat → Nat} {n : Nat} {rs : List (List Nat)} (R : RingsOf f n rs) {i : Nat} (hi : i ≤ rs.length) {b : List Int} {more : List (List Int)} (few : ((rs.take i).map toI ++ b :: more).flatten.length ≤ 1000)
    (hb : b = [] ∨ ∃ (q : List Int) (x : Int) (r : List Int), b = q ++ x :: r ∧ (toI (rs.take i).flatten ++ q).Nodup ∧ (∀ y ∈ q, 0 ≤ y) ∧ (x < 0 ∨ x ∈ toI (rs.take i).flatten ++ q)) :
    BadAt .non ((rs.take i).map toI ++ b :: more) i := by
  have lt : ((rs.take i).map toI).length = i := by rw [List.length_map, List.length_take]; omega
  have tk : ((rs.take i).map toI ++ b :: more).take i = (rs.take i).map toI := by
    rw [List.take_append_of_le_length (by omega), List.take_of_length_le (by omega)]
  obtain ⟨t, ht⟩ := take_flat_sub (rs := rs) i
  have nd := R.nd
  rw [ht] at nd
  refine ⟨.inl rfl, fun k r hk hr => ?_, ?_, ?_, few, b, ?_, ?_⟩
  · rw [List.getElem?_append_left (by omega), List.getElem?_map] at hr
    cases e : (rs.take i)[k]? with
    | none => rw [e] at hr; cases hr
    | some q =>
      rw [e] at hr
      have hq := List.mem_of_mem_take (List.mem_of_getElem? e)
      have h0 := R.ne q hq
      have er : r = toI q := (Option.some.inj hr).symm
      rw [er]
      intro z
      unfold toI at z
      exact h0 (List.map_eq_nil_iff.mp z)
  · rw [tk, toI_flat]
    exact toI_nodup (List.nodup_append.mp nd).1
  · rw [tk, toI_flat]
    intro x hx
    obtain ⟨y, hy, rfl⟩ := toI_mem.mp hx
    have := R.lt y (by rw [ht]; exact List.mem_append_left _ hy)
    exact ⟨by omega, .inl rfl⟩
  · rw [List.getElem?_append_right (by omega), lt, Nat.sub_self]
    rfl
  · rw [tk, toI_flat]
    rcases hb with h | ⟨q, x, r, h1, h2, h3, h4⟩
    · exact .inl h
    · exact .inr ⟨q, x, r, h1, h2, fun y hy => ⟨h3 y hy, .inl rfl⟩, h4.elim .inl fun z => .inr (.inl z)⟩
/-! ### rings taken apart and put together -/
theorem RgI.mono {H H' : Hp} {as : List Addr} {rs : List (List Int)} (g : RgI H as rs) (s : Same H H') : RgI H' as rs := ⟨g.1, fun i b r h1 h2 => s _ _ (g.2 i b r h1 h2)⟩
theorem RgI.app {H : Hp} {as bs : List Addr} {rs ss : List (List Int)} (g : RgI H as rs) (k : RgI H bs ss) : RgI H (as ++ bs) (rs ++ ss) := by
  refine ⟨by rw [List.length_append, List.length_append, g.1, k.1], fun i b q h1 h2 => ?_⟩
  by_cases c : i < as.length
  · rw [List.getElem?_append_left c] at h1
    rw [List.getElem?_append_left (by rw [← g.1]; exact c)] at h2
    exact g.2 i b q h1 h2
  · rw [List.getElem?_append_right (by omega)] at h1
    rw [List.getElem?_append_right (by rw [← g.1]; omega), ← g.1] at h2
    exact k.2 _ b q h1 h2
theorem RgI.one {H : Hp} {b : Addr} {r : List Int} (h : H b = some (.lst (r.map V.int))) : RgI H [b] [r] := ⟨rfl, fun i b' r' h1 h2 => by
  cases i with
  | zero => cases h1; cases h2; exact h
  | succ i => cases h1⟩
theorem toI_nv (r : List Nat) : (toI r).map V.int = r.map nv := by
  unfold toI
  rw [List.map_map]
  rfl
theorem Rg.ints {H : Hp} {as : List Addr} {rs : List (List Nat)} (g : Rg H as rs) : RgI H as (rs.map toI) := by
  refine ⟨by rw [List.length_map]; exact g.len, fun i b r h1 h2 => ?_⟩
  rw [List.getElem?_map] at h2
  cases e : rs[i]? with
  | none => rw [e] at h2; cases h2
  | some q =>
    rw [e] at h2
    have er : r = toI q := (Option.some.inj h2).symm
    rw [er, toI_nv]
    exact g.at_ i b q h1 e
theorem Rg.take {H : Hp} {as : List Addr} {rs : List (List Nat)} (g : Rg H as rs) (n : Nat) : Rg H (as.take n) (rs.take n) := by
  refine ⟨by rw [List.length_take, List.length_take, g.len], fun i b r h1 h2 => ?_⟩
  rw [List.getElem?_take] at h1 h2
  by_cases c : i < n
  · rw [if_pos c] at h1 h2
    exact g.at_ i b r h1 h2
  · rw [if_neg c] at h1
    cases h1
theorem Rg.drop {H : Hp} {as : List Addr} {rs : List (List Nat)} (g : Rg H as rs) (n : Nat) : Rg H (as.drop n) (rs.drop n) := by
  refine ⟨by rw [List.length_drop, List.length_drop, g.len], fun i b r h1 h2 => ?_⟩
  rw [List.getElem?_drop] at h1 h2
  exact g.at_ _ b r h1 h2
theorem Rg.ins {H : Hp} {as : List Addr} {rs : List (List Nat)} (g : Rg H as rs) {b : Addr} {r : List Int} (h : H b = some (.lst (r.map V.int))) (i j : Nat) :
    RgI H (as.take i ++ b :: as.drop j) ((rs.take i).map toI ++ r :: (rs.drop j).map toI) :=
  (g.take i).ints.app ((RgI.one h).app (g.drop j).ints)
theorem ins_flat {rs : List (List Nat)} (i j : Nat) (h : i ≤ j) (b : List Int) : ((rs.take i).map toI ++ b :: (rs.drop j).map toI).flatten.length ≤ rs.flatten.length + b.length := by
  have e : rs.flatten.length = (rs.take i).flatten.length + ((rs.drop i).take (j - i)).flatten.length + (rs.drop j).flatten.length := by
    have e1 : rs.drop j = (rs.drop i).drop (j - i) := by rw [List.drop_drop]; congr 1; omega
    have e2 : rs.flatten = (rs.take i).flatten ++ (((rs.drop i).take (j - i)).flatten ++ (rs.drop j).flatten) := by
      rw [e1, ← List.flatten_append, List.take_append_drop, ← List.flatten_append, List.take_append_drop]
    rw [e2, List.length_append, List.length_append]
    omega
  have l : ∀ qs : List (List Nat), (qs.map toI).flatten.length = qs.flatten.length := fun qs => by
    rw [toI_flat]
    unfold toI
    rw [List.length_map]
  rw [List.flatten_append, List.flatten_cons, List.length_append, List.length_append, l, l]
  omega
theorem len_flat_ge {rs : List (List Nat)} (h : ∀ r ∈ rs, r ≠ []) : rs.length ≤ rs.flatten.length := by
  induction rs with
  | nil => exact Nat.le_refl _
  | cons r rs ih =>
    have h1 := List.length_pos_iff.mpr (h r List.mem_cons_self)
    have h2 := ih fun q hq => h q (List.mem_cons_of_mem _ hq)
    rw [List.length_cons, List.flatten_cons, List.length_append]
    omega
def rListOf (K : PySem.W.Frag) : List V → Hp → VK → Prop := fun xs H Q => ∃ p ys, xs = [.ref p] ∧ (SqL K H p ys ∨ SqT K H p ys) ∧ ∀ l, H l = none → Q (.ref l) (upd H l (.lst ys))
section
variable {X : Cx}
theorem call_listOf : CallR X (.type "list") (rListOf X.K) := call_list_of
end

/-! ### ascending lists -/
theorem asc_eq : ∀ {l m : List Int}, l.Pairwise (· < ·) → m.Pairwise (· < ·) → (∀ x, x ∈ l ↔ x ∈ m) → l = m
  | [], [], _, _, _ => rfl
  | [], b :: m, _, _, h => by cases (h b).mpr List.mem_cons_self
  | a :: l, [], _, _, h => by cases (h a).mp List.mem_cons_self
  | a :: l, b :: m, hl, hm, h => by
    rw [List.pairwise_cons] at hl hm
    have ab : a = b := by
      rcases List.mem_cons.mp ((h a).mp List.mem_cons_self) with e | e
      · exact e
      · rcases List.mem_cons.mp ((h b).mpr List.mem_cons_self) with e2 | e2
        · exact e2.symm
        · have := hm.1 a e
          have := hl.1 b e2
          omega
    subst ab
    congr 1
    refine asc_eq hl.2 hm.2 fun x => ?_
    constructor
    · intro hx
      rcases List.mem_cons.mp ((h x).mp (List.mem_cons_of_mem _ hx)) with e | e
      · have := hl.1 x hx
        omega
      · exact e
    · intro hx
      rcases List.mem_cons.mp ((h x).mpr (List.mem_cons_of_mem _ hx)) with e | e
      · have := hm.1 x hx
        omega
      · exact e
theorem lt_of_le_nodup {l : List Int} (h : l.Pairwise (· ≤ ·)) (nd : l.Nodup) : l.Pairwise (· < ·) := by
  refine (h.and nd).imp fun {a b} h => ?_
  have := h.1
  have h2 : a ≠ b := h.2
  omega
theorem cutV_from (xs : List V) (n : Nat) : cutV xs (some (n : Int)) none = xs.drop n := by
  unfold cutV
  rw [HT.sIx_nat, HT.sIx_none]
  by_cases c : n ≤ xs.length
  · rw [Nat.min_eq_left c, List.take_of_length_le (by rw [List.length_drop]; exact Nat.le_refl _)]
  · rw [Nat.min_eq_right (by omega), List.drop_eq_nil_of_le (Nat.le_refl _), List.drop_eq_nil_of_le (by omega), List.take_nil]
theorem cutV_to (xs : List V) (n : Nat) : cutV xs none (some (n : Int)) = xs.take n := by
  unfold cutV
  rw [HT.sIx_nat, HT.sIx_none, List.drop_zero, Nat.sub_zero]
  by_cases c : n ≤ xs.length
  · rw [Nat.min_eq_left c]
  · rw [Nat.min_eq_right (by omega), List.take_of_length_le (Nat.le_refl _), List.take_of_length_le (by omega)]
section
variable {P : Program} {w : World} {K : PySem.W.Frag} {mg : Str → Option Value} {base : Heap} {CP CW : Addr}
/-! ### _law_known_right -/
abbrev s_l_known_right : Stmt := top 45
theorem sc_l_known_right : FnScope ["_law_rings_here", "_law_row_here", "_law_ring", "_law_handed", "_law_word", "_law_places", "_law_at", "_law_bad"] ["_law_rings_here", "_law_row_here"] (defScope s_l_known_right) := ⟨rfl, rfl, rfl, by decide +kernel, rfl, by decide +kernel, by decide +kernel⟩

/-- what the law draws besides the rings -/
def spKnownRight (K : PySem.W.Frag) : Sp := fun vs H Q _ => ∃ (a ra : Addr) (f : Nat → Nat) (n : Nat) (as : List Addr) (ds : List Nat) (d6 d7 d8 : Nat), vs = [.ref a, .ref ra] ∧ H a = some (.lst (as.map V.ref)) ∧ PermF f n ∧ n ≤ 60 ∧ Rg H as (rings f n) ∧
  H ra = some (.lst (ds.map nv)) ∧ ds[6]? = some d6 ∧ ds[7]? = some d7 ∧ ds[8]? = some d8 ∧ d8 < 4 ∧ ∀ H' : Hp, Same H H' → Q (.bl true) H'
set_option maxHeartbeats 1000000 in
theorem ok_l_known_right {f : Addr} {fd : FuncData} (F : Fun K "_law_known_right" "_law_known_right" s_l_known_right f fd) (T : Blt mg) (str : mg "str" = none) (gW : mg "Word" = some (.ref CW)) (W : WdTxt K CW)
    (S_Word_known : StatOk P w K mg base CX0 6 CW "known" ["rings"] [] (spKnownK K CP CW)) (D_holes : PropOk P w K mg base 1 CW "holes" (spHoles CP CW)) (D_named : PropOk P w K mg base 1 CW "named" (spNamed CP CW))
    (D_Word_len : MethOk P w K mg base CX0 1 CW "__len__" ["self"] [] (spWLen CP CW)) (D_Word_str : MethOk P w K mg base CX0 4 CW "__str__" ["self"] [] (spWStr CP CW))
    (D_l_text : DefOk P w K mg base CX0 1 "_law_text" ["_law_rings_here"] [] (spText K)) (D_l_no_known : DefOk P w K mg base CX0 8 "_law_no_known" ["_law_rings_here"] [] (spNoKnown K)) :
    FnOk P w K mg base CX0 9 f fd ["_law_rings_here", "_law_row_here"] (spKnownRight K) := by
  refine F.ok sc_l_known_right (fun vs H Q E h => ?_) (fun cdv A outer s H vs Q E hr h => ?_)
  · obtain ⟨a, ra, fp, n, as, ds, d6, d7, d8, rfl, _⟩ := h; rfl
  · obtain ⟨a, ra, fp, n, as, ds, d6, d7, d8, rfl, ha, hP, hn, hg, hra, e6, e7, e8, l8, q⟩ := h
    have hu2 : (A.deeper (envOfC "_law_known_right" (defScope s_l_known_right) s.heap.objs.size f cdv)).units + 64 < cLine := by have := hr.un; omega
    refine ⟨_, (pss_cons (ps_setLc (i := 3) (own := [("_law_ring", 2)]) (tt := tYes) (te := tCB (rListOf K) (tCons (tVar 2) tNil)) rfl sc_l_known_right.nd rfl rfl (sw_true rfl rfl rfl (by decide +kernel)) (pi_list (pv 0)) (blkOk_by (N := ["_law_rings_here", "_law_row_here", "_law_ring", "_law_handed", "_law_word", "_law_places", "_law_at", "_law_bad"]) (sc := defScope s_l_known_right) (by decide +kernel)) (fun _ _ _ _ _ => (pg_name (i := 2) sc_l_known_right.nd rfl (.inl rfl))) (fun _ _ _ _ _ => pts_nil) (fun _ _ _ _ _ => by exact (pe_callTy call_listOf (by rfl) T.list PyProof.Rows.boot_list (pa_cons (pv 2) pa_nil))))
    (pss_cons (ps_set (i := 4) sc_l_known_right.nd rfl (.inl rfl) (pe_stat S_Word_known hr pass0 (pe_glob (v := .ref _) rfl gW rfl) (pa_cons (pv 3) pa_nil)))
    (pss_cons (ps_set (i := 5) sc_l_known_right.nd rfl (.inl rfl) (pe_lst pa_nil))
    (pss_cons (ps_for PassesOwn.never rfl (pi_list (pv 0)) (pg_name (i := 2) sc_l_known_right.nd rfl (.inl rfl)) (pss_one (ps_set (i := 5) sc_l_known_right.nd rfl (.inl rfl) (pe_op op_cat (pv 5) (pv 2)))))
    (pss_cons (ps_if (pt_cmpR (op_neD hu2) (pv 3) (pv 0) (nomark _)) (pss_one (ps_ret pe_bl)) pss_nil)
    (pss_cons (ps_for PassesOwn.never rfl (pi_list (pv 3)) (pg_name (i := 2) sc_l_known_right.nd rfl (.inl rfl)) (pss_one (ps_expr (pe_bm PySem.F.plainAttrs_list PySem.F.slot_list_append PySem.F.type_list_append mt_append (pv 2) (pa_cons pe_int pa_nil)))))
    (pss_cons (ps_expr (pe_bm PySem.F.plainAttrs_list PySem.F.slot_list_append PySem.F.type_list_append mt_append (pv 3) (pa_cons (pe_lst (pa_cons pe_int (pa_cons pe_int pa_nil))) pa_nil)))
    (pss_cons (ps_if (PW.pt (pw_or (pt_cmpR (op_neD hu2) (pe_propD D_named W.cl (hr.mono (by decide)) (pv 4)) (pe_callB cr_sorted (by rfl) T.sorted (by decide +kernel) (pa_cons (pv 5) pa_nil)) (nomark _)) (pw_or (pt_cmpR (op_neD hu2) (pe_propD D_holes W.cl (hr.mono (by decide)) (pv 4)) (pe_lst pa_nil) (nomark _)) (pw_or1 (pt_cmpR op_ne (pe_callB (call_lenOwn D_Word_len hr pass0) (by rfl) T.len PySem.boot_len (pa_cons (pv 4) pa_nil)) pe_int (nomark _)))))) (pss_one (ps_ret pe_bl)) pss_nil)
    (pss_cons (ps_if (pt_cmpR op_ne (pe_callTy (call_strOwn D_Word_str hr pass0) (by rfl) str (by decide +kernel) (pa_cons (pv 4) pa_nil)) (pe_d D_l_text hr pass0 (pa_cons (pv 0) pa_nil)) (nomark _)) (pss_one (ps_ret pe_bl)) pss_nil)
    (pss_cons (ps_join (ps_if (PW.pt (pw_and (pt_cmpR (op_neD hu2) (pv 0) (pe_lst pa_nil) (nomark _)) (pw_and1 (pt_cmpR op_ne (pe_d D_l_no_known hr pass0 (pa_cons (pe_op op_cat (pv 0) (pe_lst (pa_cons (pe_lst (pa_cons (pe_ix ix_list (pe_ix ix_list (pv 0) pe_int (fun _ _ => rfl)) (pe_un un_neg pe_int) (fun _ _ => rfl)) pa_nil)) pa_nil))) pa_nil)) (pe_callB call_len_seq (by rfl) T.len PySem.boot_len (pa_cons (pv 0) pa_nil)) (nomark _))))) (pss_one (ps_ret pe_bl)) pss_nil))
    (pss_cons (ps_set (i := 6) sc_l_known_right.nd rfl (.inl rfl) (pe_op op_mod (pe_ix ix_list (pv 1) pe_int (fun _ _ => rfl)) (pe_op op_add (pe_callB call_len_seq (by rfl) T.len PySem.boot_len (pa_cons (pv 0) pa_nil)) pe_int)))
    (pss_cons (ps_set (i := 7) sc_l_known_right.nd rfl (.inl rfl) (pe_ix ix_list (pe_lst (pa_cons (pe_lst pa_nil) (pa_cons (pe_lst (pa_cons (pe_op op_sub (pe_un un_neg pe_int) (pe_ix ix_list (pv 1) pe_int (fun _ _ => rfl))) pa_nil)) (pa_cons (pe_lst (pa_cons pe_int (pa_cons pe_int pa_nil))) (pa_cons (pe_lst (pa_cons pe_int (pa_cons pe_int (pa_cons (pe_un un_neg pe_int) pa_nil)))) pa_nil))))) (pe_ix ix_list (pv 1) pe_int (fun _ _ => rfl)) (fun _ _ => rfl)))
    (pss_one (ps_ret (pe_cmpR op_eq (pe_d D_l_no_known hr pass0 (pa_cons (pe_op op_cat (pe_op op_cat (pe_slice sl_list (pv 0) po_none (po_some (pv 6))) (pe_lst (pa_cons (pv 7) pa_nil))) (pe_slice sl_list (pv 0) (po_some (pv 6)) po_none)) pa_nil)) (pv 6) (nomark _)))))))))))))))), ?_⟩
    obtain ⟨rs, ers⟩ : ∃ rs, rs = rings fp n := ⟨_, rfl⟩
    have R : RingsOf fp n rs := by rw [ers]; exact ringsOf_perm hP
    rw [← ers] at hg
    have few := R.few
    have fl : rs.length ≤ rs.flatten.length := len_flat_ge R.ne
    have al := hg.len
    -- handed
    refine ⟨_, rfl, a, rfl, ⟨_, SqL.of ha⟩, fun D nD => ?_⟩
    refine lc_list (K := K) (a := a) (xs := as.map V.ref) (fun i H6 => ∃ bs : List Addr, Same H H6 ∧ H6 D = some (.lst (bs.map V.ref)) ∧ bs.length = i ∧ (∀ b ∈ bs, H b = none ∧ b ≠ D) ∧ Rg H6 bs (rs.take i))
      ⟨[], same_upd nD, upd_same, rfl, (by intro b h; cases h), Rg.nil⟩ (fun i H6 _ ⟨_, s, _⟩ => SqL.of (s _ _ ha)) ?_ ?_
    · rintro i y H6 hi ⟨bs, s6, hD, bl, bn, bg⟩
      obtain ⟨b, hb, rfl⟩ : ∃ b, as[i]? = some b ∧ y = V.ref b := by
        rw [List.getElem?_map] at hi
        cases e : as[i]? with
        | none => rw [e] at hi; cases hi
        | some b => rw [e] at hi; exact ⟨b, rfl, (Option.some.inj hi).symm⟩
      have hil : i < rs.length := by rw [← hg.len]; exact (List.getElem?_eq_some_iff.mp hb).1
      obtain ⟨r, hr'⟩ : ∃ r, rs[i]? = some r := ⟨_, List.getElem?_eq_getElem hil⟩
      have hbr := hg.at_ i b r hb hr'
      refine ⟨rfl, yesT ?_⟩
      refine ⟨_, rfl, b, r.map nv, rfl, .inl (SqL.of (s6 _ _ hbr)), fun l nl => ?_⟩
      have Dl : D ≠ l := ne_of_none hD nl
      refine ⟨_, same_upd nl _ _ hD, small64 (by rw [List.length_map]; omega), bs ++ [l], mutS (s6.trans (same_upd nl)) nD, by rw [upd_same, List.map_append]; rfl, by rw [List.length_append, bl]; rfl, ?_, ?_⟩
      · intro b' hb'
        rcases List.mem_append.mp hb' with h | h
        · exact bn b' h
        · rw [List.mem_singleton.mp h]
          exact ⟨s6.free nl, Dl.symm⟩
      · rw [List.take_add_one, hr']
        refine Rg.upd (Rg.snoc (bg.mono (same_upd nl)) upd_same) fun hm => ?_
        rcases List.mem_append.mp hm with h | h
        · exact (bn D h).2 rfl
        · exact Dl (List.mem_singleton.mp h)
    · rintro H6 ⟨bs, s6, hD, bl, bn, bg⟩
      rw [List.length_map, al, List.take_length] at bg
      rw [List.length_map] at bl
      -- the word
      refine ⟨rfl, _, rfl, D, bs, rs, rfl, SqL.of hD, bg, R.ne, R.nd, by omega, fun x m H7 s7 nx nm hW => ?_⟩
      have s07 := s6.trans s7
      have hD7 := s7 _ _ hD
      have bg7 := bg.mono s7
      have hg7 := hg.mono s07
      have ha7 := s07 _ _ ha
      have x0 : H x = none := s6.free nx
      -- places
      refine ⟨Nat.zero_le _, fun p0 np0 => ?_⟩
      have sp0 := same_upd (o := .lst []) np0
      refine ⟨_, rfl, a, rfl, ⟨_, SqL.of (sp0 _ _ ha7)⟩, for_list (K := K) (a := a) (xs := as.map V.ref) (fun i σ H8 => ∃ (v2 : Option V) (pl : Addr), σ = [some (V.ref a), some (V.ref ra), v2, some (V.ref D), some (V.ref x), some (V.ref pl), none, none] ∧ Same H7 H8 ∧ H8 pl = some (.lst ((rs.take i).flatten.map nv)) ∧ H7 pl = none)
        ⟨none, p0, rfl, sp0, upd_same, np0⟩ (fun i σ H8 _ ⟨_, _, _, s, _⟩ => SqL.of (s _ _ ha7)) ?_ ?_⟩
      · rintro i y σ H8 hi ⟨v2, pl, rfl, s8, hpl, npl⟩
        obtain ⟨b, hb, rfl⟩ : ∃ b, as[i]? = some b ∧ y = V.ref b := by
          rw [List.getElem?_map] at hi
          cases e : as[i]? with
          | none => rw [e] at hi; cases hi
          | some b => rw [e] at hi; exact ⟨b, rfl, (Option.some.inj hi).symm⟩
        have hil : i < rs.length := by rw [← hg.len]; exact (List.getElem?_eq_some_iff.mp hb).1
        obtain ⟨r, hr'⟩ : ∃ r, rs[i]? = some r := ⟨_, List.getElem?_eq_getElem hil⟩
        have hbr := s8 _ _ (hg7.at_ i b r hb hr')
        obtain ⟨t, ht⟩ := take_flat_sub (rs := rs) i
        have tl := congrArg List.length ht
        rw [List.length_append] at tl
        have rl := mem_len (List.mem_of_getElem? hr')
        refine ⟨_, rfl, _, rfl, pl, b, _, _, rfl, rfl, hpl, hbr, Nat.le_of_lt (small64 (by rw [List.length_map, List.length_map]; omega)), fun p4 np4 => ?_⟩
        refine ⟨_, p4, rfl, s8.trans (same_upd np4), ?_, s8.free np4⟩
        rw [upd_same, List.take_add_one, hr', List.flatten_append, List.map_append]
        simp
      · rintro σ H8 ⟨v2, pl, rfl, s8, hpl, npl⟩
        rw [List.length_map, al, List.take_length] at hpl
        have hD8 := s8 _ _ hD7
        have bg8 := bg7.mono s8
        have ha8 := s8 _ _ ha7
        have hg8 := hg7.mono s8
        refine ⟨_, rfl, _, rfl, _, _, dpRs (SqL.of hD8) bg8, dpRs (SqL.of ha8) hg8, shRs _, shRs _, ?_⟩
        rw [eqRs]
        refine ⟨false, rfl, iteF ?_⟩
        have b6 : ∀ b ∈ bs, ∃ u, H6 b = some u := fun b hb => by
          obtain ⟨i, hi⟩ := List.getElem?_of_mem hb
          have il : i < rs.length := by rw [← bg.len]; exact (List.getElem?_eq_some_iff.mp hi).1
          exact ⟨_, bg.at_ i b _ hi (List.getElem?_eq_getElem il)⟩
        -- the lists that were handed are changed
        refine ⟨_, rfl, D, rfl, ⟨_, SqL.of hD8⟩, for_list (K := K) (a := D) (xs := bs.map V.ref) (fun i σ H' => ∃ v2 : Option V, σ = [some (V.ref a), some (V.ref ra), v2, some (V.ref D), some (V.ref x), some (V.ref pl), none, none] ∧
            (∀ c u, H8 c = some u → c ∉ bs → H' c = some u) ∧ ∀ b ∈ bs, ∃ ys, H' b = some (.lst ys) ∧ ys.length ≤ 60 + i)
          ⟨v2, rfl, fun c u h _ => h, fun b hb => ?_⟩ (fun i σ H' _ ⟨_, _, h, _⟩ => SqL.of (h _ _ hD8 fun hm => (bn D hm).2 rfl)) ?_ ?_⟩
        · obtain ⟨i, hi⟩ := List.getElem?_of_mem hb
          have il : i < rs.length := by rw [← bg8.len]; exact (List.getElem?_eq_some_iff.mp hi).1
          have rl := mem_len (List.getElem_mem il)
          exact ⟨_, bg8.at_ i b _ hi (List.getElem?_eq_getElem il), by rw [List.length_map]; omega⟩
        · rintro i y σ H' hi ⟨v2, rfl, hk, hz⟩
          obtain ⟨b, hb, rfl⟩ : ∃ b, bs[i]? = some b ∧ y = V.ref b := by
            rw [List.getElem?_map] at hi
            cases e : bs[i]? with
            | none => rw [e] at hi; cases hi
            | some b => rw [e] at hi; exact ⟨b, rfl, (Option.some.inj hi).symm⟩
          have hbm := List.mem_of_getElem? hb
          have ib : i < bs.length := (List.getElem?_eq_some_iff.mp hb).1
          obtain ⟨ys, hys, yl⟩ := hz b hbm
          refine ⟨_, rfl, .inl ⟨rfl, _, SqL.of hys⟩, b, _, _, rfl, rfl, hys, small64 (by omega), _, rfl, fun c u hc hn => ?_, fun b' hb' => ?_⟩
          · rw [upd_ne (fun e => hn (by rw [e]; exact hbm))]
            exact hk c u hc hn
          · by_cases e : b' = b
            · exact ⟨_, by rw [e, upd_same], by rw [List.length_append]; show _ + 1 ≤ _; omega⟩
            · obtain ⟨ys', h', l'⟩ := hz b' hb'
              exact ⟨ys', by rw [upd_ne e]; exact h', by omega⟩
        · rintro σ H9 ⟨v2, rfl, hk, _⟩
          have hD9 := hk _ _ hD8 fun hm => (bn D hm).2 rfl
          refine ⟨_, rfl, .inl ⟨rfl, _, SqL.of hD9⟩, by show 2 ≤ sizeLine; decide, fun L nL => ?_⟩
          have DL : D ≠ L := ne_of_none hD9 nL
          refine ⟨D, _, _, rfl, rfl, by rw [upd_ne DL]; exact hD9, small64 (by rw [List.length_map]; omega), ?_⟩
          have up : ∀ c u, H8 c = some u → c ∉ bs → c ≠ D → (upd (upd H9 L (.lst [V.int 98, V.int 97])) D (.lst (bs.map V.ref ++ [V.ref L]))) c = some u := fun c u h1 h2 h3 => by
            have h9 := hk c u h1 h2
            rw [upd_ne h3, upd_ne (ne_of_none h9 nL)]
            exact h9
          generalize upd (upd H9 L (.lst [V.int 98, V.int 97])) D (.lst (bs.map V.ref ++ [V.ref L])) = HE at up ⊢
          have s0E : Same H HE := fun c u h => up c u (s8 _ _ (s07 _ _ h)) (fun hm => by rw [(bn c hm).1] at h; cases h) (fun e => by rw [e, nD] at h; cases h)
          have D6 : ∃ u, H6 D = some u := ⟨_, hD⟩
          have old : ∀ c, H6 c = none → c ∉ bs ∧ c ≠ D := fun c h => ⟨fun hm => (by obtain ⟨u, hu⟩ := b6 c hm; rw [h] at hu; cases hu), fun e => (by obtain ⟨u, hu⟩ := D6; rw [← e, h] at hu; cases hu)⟩
          have hWE := hW.keep nx nm (H2 := HE) fun c u h h6 => up c u (s8 _ _ h) (old c h6).1 (old c h6).2
          have hplE := up pl _ hpl (old pl (s7.free npl)).1 (old pl (s7.free npl)).2
          have haE := s0E _ _ ha
          have hgE := hg.mono s0E
          have hraE := s0E _ _ hra
          clear up old b6 hk hW hpl hg8 bg8 bg7 hg7
          -- what the word tells
          have eg : moved (pairs rs) = graph fp rs.flatten := by
            rw [pairs_follow R.fol]
            unfold moved graph
            refine List.filter_eq_self.mpr fun p hp => ?_
            obtain ⟨y, hy, rfl⟩ := List.mem_map.mp hp
            rw [ers] at hy
            exact decide_eq_true fun e => mem_rings_moves hP hy e.symm
          rw [eg] at hWE
          have hWat := hWE.at_
          obtain ⟨dxw, ow, dw, aw, w1, _⟩ := id hWat
          have kk : keysL (knDs (graph fp rs.flatten)) = rs.flatten := by
            unfold knDs
            by_cases c : graph fp rs.flatten = []
            · rw [if_pos c]
              unfold graph at c
              rw [List.map_eq_nil_iff.mp c]
              rfl
            · rw [if_neg c]
              unfold keysL graph
              show (rs.flatten.map fun x => (x, fp x)).map Prod.fst ++ [] = _
              rw [List.append_nil, List.map_map, show (Prod.fst ∘ fun x => (x, fp x)) = (id : Nat → Nat) from rfl, List.map_id]
          refine ⟨_, rfl, x, dxw, _, rfl, w1, x, _, _, rfl, hWat, by rw [kk]; omega, fun on ns H10 s10 non hpw hmem hon => ?_⟩
          rw [kk] at hmem
          refine ⟨_, rfl, pl, toI rs.flatten, rfl, by rw [toI_nv]; exact SqL.of (s10 _ _ hplE), by unfold toI; rw [List.length_map]; omega, fun ns' p' hperm hpw' np' => ?_⟩
          have ens : ns = ns' := asc_eq hpw (lt_of_le_nodup hpw' (hperm.nodup_iff.mpr (toI_nodup R.nd))) fun z => by
            rw [hmem z, hperm.mem_iff, toI_mem]
          subst ens
          obtain ⟨N, eN⟩ : ∃ N : List Nat, ns = toI N := by
            refine ⟨ns.map Int.toNat, ?_⟩
            unfold toI
            rw [List.map_map]
            conv => lhs; rw [← List.map_id ns]
            refine List.map_congr_left fun z hz => ?_
            obtain ⟨y, _, rfl⟩ := (hmem z).mp hz
            simp
          subst eN
          rw [toI_nv] at hon
          have sp' := same_upd (o := .lst ((toI N).map V.int)) np'
          have hp' : (upd H10 p' (.lst ((toI N).map V.int))) p' = some (.lst (N.map nv)) := by rw [upd_same, toI_nv]
          have sE1 := s10.trans sp'
          have hon1 := sp' _ _ hon
          generalize upd H10 p' (.lst ((toI N).map V.int)) = H11 at hp' sE1 hon1 ⊢
          refine ⟨_, _, dpI (SqL.of hon1), dpI (SqL.of hp'), shI _, shI _, ?_⟩
          rw [eqI, decide_eq_true rfl]
          refine ⟨false, rfl, iteF ?_⟩
          have hW1 := hWat.mono sE1
          refine ⟨_, rfl, x, dxw, _, rfl, sE1 _ _ w1, x, _, _, rfl, hW1, fun oh H12 s12 noh hoh => ⟨Nat.zero_le _, fun pz npz => ?_⟩⟩
          have sz := same_upd (o := .lst []) npz
          have sE2 := sE1.trans (s12.trans sz)
          have hz : (upd H12 pz (.lst [])) pz = some (.lst []) := upd_same
          have hoh2 := sz _ _ hoh
          generalize upd H12 pz (.lst []) = H13 at sE2 hz hoh2 ⊢
          refine ⟨_, _, dpI (l := []) (SqL.of hoh2), dpI (l := []) (SqL.of hz), shI [], shI [], ?_⟩
          rw [eqI, decide_eq_true rfl]
          refine ⟨false, rfl, iteF ?_⟩
          have hW2 := hWat.mono sE2
          have us : usesL (knDs (graph fp rs.flatten)) = [] := by
            unfold knDs
            split
            · rfl
            · unfold usesL
              rw [List.filter_cons_of_neg (by show ¬ decide (("" : Str).length ≠ 0) = true; decide +kernel)]
              rfl
          have kl : (knDs (graph fp rs.flatten)).length ≤ 1 := by unfold knDs; split <;> simp
          have kn : ∀ q ∈ knDs (graph fp rs.flatten), q = ⟨"", false, graph fp rs.flatten⟩ := fun q hq => by
            unfold knDs at hq
            split at hq
            · cases hq
            · exact List.mem_singleton.mp hq
          refine ⟨_, rfl, x, dxw, _, rfl, sE2 _ _ w1, x, _, _, rfl, hW2, by omega, (fun q hq => by rw [kn q hq]; exact Nat.zero_le _), fun H14 s14 => ⟨0, by decide, by rw [us]; rfl, rfl, _, rfl, ?_⟩⟩
          rw [show (!decide (V.int ((0 : Nat) : Int) = V.int 0)) = false from by rw [decide_eq_true (by rfl)]; rfl]
          refine iteF ?_
          -- its text
          have sE3 := sE2.trans s14
          have hW3 := hWat.mono sE3
          have M : Moves fp n rs.flatten := {
            perm := hP
            nd := R.nd
            lt := R.lt
            all := fun y hy hne => by rw [ers]; exact rings_all hP hy hne
            cl := fun k hk => by
              obtain ⟨r, hr1, hx1⟩ := List.mem_flatten.mp hk
              have e := follows_iff.mp (R.fol r hr1)
              have : fp k ∈ rot r := by rw [e]; exact List.mem_map.mpr ⟨k, hx1, rfl⟩
              refine List.mem_flatten.mpr ⟨r, hr1, ?_⟩
              unfold rot at this
              rcases List.mem_append.mp this with h | h
              · exact List.mem_of_mem_drop h
              · exact List.mem_of_mem_take h
            few := by omega
            small := Nat.le_trans (Nat.mul_le_mul (show rs.flatten.length ≤ 64 by omega) (show n ≤ 1000 by omega)) (by decide) }
          have x3 : ∀ y ∈ rs.flatten, y < 1000 := fun y hy => by have := R.lt y hy; omega
          refine ⟨_, rfl, x, dxw, _, rfl, sE3 _ _ w1, x, _, _, (knDs (graph fp rs.flatten)).map fun _ => txA rs, rfl, hW3, by omega, List.length_map _, fun i q t e1 e2 => ?_, fun H15 s15 => ⟨_, rfl, ?_⟩⟩
          · rw [List.getElem?_map, e1] at e2
            cases e2
            rw [kn q (List.mem_of_getElem? e1)]
            exact .inr ⟨by show (("" : Str)).length = 0; decide +kernel, fp, n, rs.flatten, rfl, M, by omega, by rw [ers]⟩
          have sE4 := sE3.trans s15
          refine ⟨_, rfl, a, as, rs, rfl, SqL.of (sE4 _ _ haE), hgE.mono sE4, x3, by omega, by omega, fun H16 s16 => ⟨rfl, _, rfl, ?_⟩⟩
          have etx : wdTx ((knDs (graph fp rs.flatten)).map fun _ => txA rs) = txA rs := by
            unfold wdTx knDs
            by_cases c : graph fp rs.flatten = []
            · rw [if_pos c]
              have c2 : rs.flatten = [] := List.map_eq_nil_iff.mp c
              have c3 : rs = [] := List.length_eq_zero_iff.mp (by rw [c2] at fl; exact Nat.le_zero.mp fl)
              rw [c3]
              decide +kernel
            · rw [if_neg c]
              rfl
          rw [show (!decide (V.str (wdTx ((knDs (graph fp rs.flatten)).map fun _ => txA rs)) = V.str (txA rs))) = false from by rw [decide_eq_true (by rw [etx])]; rfl]
          refine iteF ?_
          have sE5 := sE4.trans s16
          have ha5 := sE5 _ _ haE
          have hg5 := hgE.mono sE5
          have hra5 := sE5 _ _ hraE
          have s05 := s0E.trans sE5
          refine ⟨fun σ H17 => ∃ v2 : Option V, σ = [some (V.ref a), some (V.ref ra), v2, some (V.ref D), some (V.ref x), some (V.ref pl), none, none] ∧ Same H16 H17, ?_, ?_⟩
          · refine ⟨_, rfl, Nat.zero_le _, fun pz2 npz2 => ?_⟩
            have sz2 := same_upd (o := .lst []) npz2
            refine ⟨_, _, dpRs (sz2.seq (SqL.of ha5)) (hg5.mono sz2), dpI (l := []) (SqL.of upd_same), shRs _, shI [], ?_⟩
            rw [show PyData.eqv (.list (rs.map dR)) (.list (([] : List Nat).map fun (x : Nat) => PyData.int x)) = decide (rs = []) from eqRs0 rs]
            by_cases c : rs = []
            · exact ⟨false, by rw [decide_eq_true c]; rfl, iteF (iteF ⟨_, rfl, sz2⟩)⟩
            · refine ⟨true, by rw [decide_eq_false c]; rfl, iteT ?_⟩
              have ha6 := sz2 _ _ ha5
              have hg6 := hg5.mono sz2
              generalize upd H16 pz2 (.lst []) = H17 at sz2 ha6 hg6 ⊢
              have r0 : 0 < rs.length := List.length_pos_iff.mpr c
              obtain ⟨b, hb⟩ : ∃ b, as[0]? = some b := ⟨_, List.getElem?_eq_getElem (by omega)⟩
              obtain ⟨r, hr'⟩ : ∃ r, rs[0]? = some r := ⟨_, List.getElem?_eq_getElem r0⟩
              have hbr := hg6.at_ 0 b r hb hr'
              have rm := List.mem_of_getElem? hr'
              have rne := R.ne r rm
              obtain ⟨r', y, rfl⟩ : ∃ r' y, r = r' ++ [y] := ⟨r.dropLast, r.getLast rne, (List.dropLast_concat_getLast rne).symm⟩
              have hbR : (as.map V.ref)[0]? = some (.ref b) := by rw [List.getElem?_map, hb]; rfl
              refine ⟨_, rfl, _, rfl, a, _, _, _, rfl, rfl, SqL.of ha6, atI_nat (j := 0) hbR, _, rfl, b, _, _, nv y, rfl, rfl, SqL.of hbr, ?_, by show 1 ≤ sizeLine; decide, fun p2 np2 => ?_⟩
              · rw [List.map_append]
                exact atI_last _ _
              have h2 : (upd H17 p2 (.lst [nv y])) p2 = some (.lst [nv y]) := upd_same
              have s2 := sz2.trans (same_upd (o := .lst [nv y]) np2)
              have ha2 := same_upd (o := .lst [nv y]) np2 _ _ ha6
              clear np2
              generalize upd H17 p2 (.lst [nv y]) = H2 at s2 h2 ha2 ⊢
              refine ⟨by show 1 ≤ sizeLine; decide, fun p3 np3 => ?_⟩
              have s3 := same_upd (o := .lst [.ref p2]) np3
              have h23 := s3 _ _ h2
              have ha3 := s3 _ _ ha2
              have h33 : (upd H2 p3 (.lst [.ref p2])) p3 = some (.lst [.ref p2]) := upd_same
              have s3 := s2.trans s3
              clear np3
              generalize upd H2 p3 (.lst [.ref p2]) = H3 at s3 h23 h33 ha3 ⊢
              refine ⟨a, p3, _, _, rfl, rfl, ha3, h33, Nat.le_of_lt (small64 (by rw [List.length_map]; show _ + 1 ≤ _; omega)), fun p6 np6 => ?_⟩
              have s6 := same_upd (o := .lst (as.map V.ref ++ [.ref p2])) np6
              have h26 := s6 _ _ h23
              have h66 : (upd H3 p6 (.lst (as.map V.ref ++ [.ref p2]))) p6 = some (.lst (as.map V.ref ++ [.ref p2])) := upd_same
              have ha6' := s6 _ _ ha3
              have s6 := s3.trans s6
              clear np6
              generalize upd H3 p6 (.lst (as.map V.ref ++ [.ref p2])) = H6 at s6 h26 h66 ha6' ⊢
              have tk : rs.take rs.length = rs := List.take_length
              have B : BadAt .non (rs.map toI ++ [[(y : Int)]]) rs.length := by
                have B := bad_insN R (i := rs.length) (Nat.le_refl _) (b := [(y : Int)]) (more := []) (by have := ins_flat (rs := rs) rs.length rs.length (Nat.le_refl _) [(y : Int)]; rw [List.drop_length] at this; have l1 : [(y : Int)].length = 1 := rfl; simp only [List.map_nil] at this; omega)
                  (.inr ⟨[], (y : Int), [], rfl, by rw [tk, List.append_nil]; exact toI_nodup R.nd, (by intro z hz2; cases hz2), .inr (by rw [tk, List.append_nil]; exact toI_mem.mpr ⟨y, List.mem_flatten.mpr ⟨_, rm, List.mem_append_right _ List.mem_cons_self⟩, rfl⟩)⟩)
                rw [tk] at B
                exact B
              refine ⟨p6, as ++ [p2], rs.map toI ++ [[(y : Int)]], rs.length, rfl, SqL.of (by rw [h66, List.map_append]; rfl), (hg5.mono s6).ints.app (RgI.one (r := [(y : Int)]) h26), B, fun H18 s18 => ?_⟩
              refine ⟨_, rfl, a, _, rfl, .inl (SqL.of (s18 _ _ ha6')), rfl, _, rfl, ?_⟩
              rw [show (!decide (nv rs.length = V.int (((as.map V.ref).length : Nat) : Int))) = false from by rw [List.length_map, al, decide_eq_true (by rfl)]; rfl]
              exact iteF ⟨_, rfl, s6.trans s18⟩
          · rintro σ H17 ⟨v2', rfl, s17⟩
            have ha7 := s17 _ _ ha5
            have hg7 := hg5.mono s17
            have hra7 := s17 _ _ hra5
            have s0H := s05.trans s17
            have ix : ∀ {j d : Nat}, ds[j]? = some d → atI (ds.map nv) ((j : Nat) : Int) = some (nv d) := fun {j d} h => atI_nat (by rw [List.getElem?_map, h]; rfl)
            refine ⟨_, rfl, ra, _, 6, nv d6, rfl, rfl, SqL.of hra7, ix e6, _, rfl, a, _, rfl, .inl (SqL.of ha7), _, _, rfl, rfl, _, _, rfl, rfl, (by rw [List.length_map]; omega), ?_⟩
            have em : (d6 : Int) % (((as.map V.ref).length : Nat) + 1) = ((d6 % (rs.length + 1) : Nat) : Int) := by rw [List.length_map, al]; rfl
            obtain ⟨i, hi⟩ : ∃ i, i = d6 % (rs.length + 1) := ⟨_, rfl⟩
            have il : i ≤ rs.length := by
              have := Nat.mod_lt d6 (show 0 < rs.length + 1 by omega)
              omega
            rw [← hi] at em
            -- the ring that is none
            refine ⟨Nat.zero_le _, fun pA npA => ?_⟩
            have tA := same_upd (o := .lst []) npA
            have hA : (upd H17 pA (.lst [])) pA = some (.lst (([] : List Int).map V.int)) := upd_same
            have hraA := tA _ _ hra7
            generalize upd H17 pA (.lst []) = HA at tA hA hraA ⊢
            refine ⟨_, rfl, _, rfl, ra, _, 7, nv d7, rfl, rfl, SqL.of hraA, ix e7, _, _, rfl, rfl, by show 1 ≤ sizeLine; decide, fun pB npB => ?_⟩
            have eB : (-(1 : Int) - (d7 : Int)) = -1 - (d7 : Int) := rfl
            have hB : (upd HA pB (.lst [V.int (-(1 : Int) - (d7 : Int))])) pB = some (.lst (([-(1 : Int) - (d7 : Int)]).map V.int)) := upd_same
            have tB := tA.trans (same_upd (o := .lst [V.int (-(1 : Int) - (d7 : Int))]) npB)
            have hAB := same_upd (o := .lst [V.int (-(1 : Int) - (d7 : Int))]) npB _ _ hA
            generalize upd HA pB (.lst [V.int (-(1 : Int) - (d7 : Int))]) = HB at tB hB hAB ⊢
            refine ⟨by show 2 ≤ sizeLine; decide, fun pC npC => ?_⟩
            have hC : (upd HB pC (.lst [V.int 5, V.int 5])) pC = some (.lst (([5, 5] : List Int).map V.int)) := upd_same
            have uC := same_upd (o := .lst [V.int 5, V.int 5]) npC
            have tC2 := tB.trans uC
            have hAC := uC _ _ hAB
            have hBC := uC _ _ hB
            generalize upd HB pC (.lst [V.int 5, V.int 5]) = HC at tC2 hC hAC hBC ⊢
            refine ⟨_, rfl, by show 3 ≤ sizeLine; decide, fun pD npD => ?_⟩
            have hDD : (upd HC pD (.lst [V.int 70, V.int 71, V.int (-1)])) pD = some (.lst (([70, 71, -1] : List Int).map V.int)) := upd_same
            have uD := same_upd (o := .lst [V.int 70, V.int 71, V.int (-1)]) npD
            have tD := tC2.trans uD
            have hAD := uD _ _ hAC
            have hBD := uD _ _ hBC
            have hCD := uD _ _ hC
            generalize upd HC pD (.lst [V.int 70, V.int 71, V.int (-1)]) = HD at tD hDD hAD hBD hCD ⊢
            refine ⟨by show 4 ≤ sizeLine; decide, fun pO npO => ?_⟩
            have uO := same_upd (o := .lst [V.ref pA, V.ref pB, V.ref pC, V.ref pD]) npO
            have hO : (upd HD pO (.lst [V.ref pA, V.ref pB, V.ref pC, V.ref pD])) pO = some (.lst ([pA, pB, pC, pD].map V.ref)) := upd_same
            have tO := tD.trans uO
            obtain ⟨pb, bI, hpb, hbI, bl3, bOk⟩ : ∃ (pb : Addr) (bI : List Int), [pA, pB, pC, pD][d8]? = some pb ∧ (upd HD pO (.lst [V.ref pA, V.ref pB, V.ref pC, V.ref pD])) pb = some (.lst (bI.map V.int)) ∧ bI.length ≤ 3 ∧
                (bI = [] ∨ ∃ (q : List Int) (x : Int) (r : List Int), bI = q ++ x :: r ∧ (toI (rs.take i).flatten ++ q).Nodup ∧ (∀ y ∈ q, 0 ≤ y) ∧ (x < 0 ∨ x ∈ toI (rs.take i).flatten ++ q)) := by
              obtain ⟨u, hu⟩ := take_flat_sub (rs := rs) i
              have nd := R.nd
              rw [hu] at nd
              have ndT := toI_nodup (List.nodup_append.mp nd).1
              have ltT : ∀ z ∈ toI (rs.take i).flatten, z < 60 := fun z hz => by
                obtain ⟨y, hy, rfl⟩ := toI_mem.mp hz
                have := R.lt y (by rw [hu]; exact List.mem_append_left _ hy)
                omega
              match d8, l8 with
              | 0, _ => exact ⟨pA, [], rfl, uO _ _ hAD, by simp, .inl rfl⟩
              | 1, _ => exact ⟨pB, [-(1 : Int) - (d7 : Int)], rfl, uO _ _ hBD, by simp, .inr ⟨[], _, [], rfl, by rw [List.append_nil]; exact ndT, (by intro y h; cases h), .inl (by omega)⟩⟩
              | 2, _ =>
                refine ⟨pC, [5, 5], rfl, uO _ _ hCD, by simp, .inr ?_⟩
                by_cases m5 : (5 : Int) ∈ toI (rs.take i).flatten
                · exact ⟨[], 5, [5], rfl, by rw [List.append_nil]; exact ndT, (by intro y h; cases h), .inr (by rw [List.append_nil]; exact m5)⟩
                · refine ⟨[5], 5, [], rfl, List.nodup_append.mpr ⟨ndT, by simp, fun z hz y hy e => m5 (by rw [← List.mem_singleton.mp hy, ← e]; exact hz)⟩, (by intro y hy; rw [List.mem_singleton.mp hy]; decide), .inr (List.mem_append_right _ List.mem_cons_self)⟩
              | 3, _ =>
                refine ⟨pD, [70, 71, -1], rfl, uO _ _ hDD, by simp, .inr ⟨[70, 71], -1, [], rfl, List.nodup_append.mpr ⟨ndT, by simp, fun z hz y hy e => ?_⟩, ?_, .inl (by decide)⟩⟩
                · have := ltT z hz
                  simp only [List.mem_cons, List.not_mem_nil, or_false] at hy
                  omega
                · intro y hy
                  simp only [List.mem_cons, List.not_mem_nil, or_false] at hy
                  omega
              | k + 4, h => exact absurd h (by omega)
            have haO := tO _ _ ha7
            have hraO := tO _ _ hra7
            have hgO := hg7.mono tO
            clear hAB hAC hBC hAD hBD hCD hDD hA hB hC
            generalize upd HD pO (.lst [V.ref pA, V.ref pB, V.ref pC, V.ref pD]) = HO1 at tO hO hbI haO hraO hgO uO ⊢
            refine ⟨_, rfl, ra, _, 8, nv d8, rfl, rfl, SqL.of hraO, ix e8, pO, _, _, V.ref pb, rfl, rfl, SqL.of hO, atI_nat (by rw [List.getElem?_map, hpb]; rfl), ?_⟩
            have s0O := s0H.trans tO
            -- rings[:at] + [bad] + rings[at:]
            refine ⟨_, rfl, _, rfl, _, rfl, a, _, rfl, SqL.of haO, fun p1 np1 => ?_⟩
            rw [em, cutV_to, ← List.map_take]
            have s1 := same_upd (o := .lst ((as.take i).map V.ref)) np1
            have hb1 := s1 _ _ hbI
            have h11 : (upd HO1 p1 (.lst ((as.take i).map V.ref))) p1 = some (.lst ((as.take i).map V.ref)) := upd_same
            clear np1
            generalize upd HO1 p1 (.lst ((as.take i).map V.ref)) = H1 at s1 hb1 h11 ⊢
            refine ⟨_, rfl, by show 1 ≤ sizeLine; decide, fun p3 np3 => ?_⟩
            have u3 := same_upd (o := .lst [.ref pb]) np3
            have h13 := u3 _ _ h11
            have hb3 := u3 _ _ hb1
            have h33 : (upd H1 p3 (.lst [.ref pb])) p3 = some (.lst [.ref pb]) := upd_same
            have s3 := s1.trans u3
            clear np3 u3
            generalize upd H1 p3 (.lst [.ref pb]) = H3 at s3 h13 hb3 h33 ⊢
            refine ⟨p1, p3, (as.take i).map V.ref, [.ref pb], rfl, rfl, h13, h33, Nat.le_of_lt (small64 (by rw [List.length_map, List.length_take]; show _ + 1 ≤ _; omega)), fun p4 np4 => ?_⟩
            have u4 := same_upd (o := .lst ((as.take i).map V.ref ++ [.ref pb])) np4
            have hb4 := u4 _ _ hb3
            have h44 : (upd H3 p4 (.lst ((as.take i).map V.ref ++ [.ref pb]))) p4 = some (.lst ((as.take i).map V.ref ++ [.ref pb])) := upd_same
            have s4 := s3.trans u4
            clear np4 u4
            generalize upd H3 p4 (.lst ((as.take i).map V.ref ++ [.ref pb])) = H4 at s4 hb4 h44 ⊢
            refine ⟨_, rfl, _, rfl, _, rfl, a, _, rfl, SqL.of (s4 _ _ haO), fun p5 np5 => ?_⟩
            rw [em, cutV_from, ← List.map_drop]
            have u5 := same_upd (o := .lst ((as.drop i).map V.ref)) np5
            have hb5 := u5 _ _ hb4
            have h45 := u5 _ _ h44
            have h55 : (upd H4 p5 (.lst ((as.drop i).map V.ref))) p5 = some (.lst ((as.drop i).map V.ref)) := upd_same
            have s5 := s4.trans u5
            clear np5 u5
            generalize upd H4 p5 (.lst ((as.drop i).map V.ref)) = H5 at s5 hb5 h45 h55 ⊢
            refine ⟨p4, p5, (as.take i).map V.ref ++ [.ref pb], (as.drop i).map V.ref, rfl, rfl, h45, h55, Nat.le_of_lt (small64 (by rw [List.length_append, List.length_map, List.length_map, List.length_take, List.length_drop]; show _ + 1 + _ ≤ _; omega)), fun p6 np6 => ?_⟩
            have u6 := same_upd (o := .lst ((as.take i).map V.ref ++ [.ref pb] ++ (as.drop i).map V.ref)) np6
            have hb6 := u6 _ _ hb5
            have h66 : (upd H5 p6 (.lst ((as.take i).map V.ref ++ [.ref pb] ++ (as.drop i).map V.ref))) p6 = some (.lst ((as.take i).map V.ref ++ [.ref pb] ++ (as.drop i).map V.ref)) := upd_same
            have s6 := s5.trans u6
            clear np6 u6
            generalize upd H5 p6 (.lst ((as.take i).map V.ref ++ [.ref pb] ++ (as.drop i).map V.ref)) = H6 at s6 hb6 h66 ⊢
            refine ⟨p6, as.take i ++ pb :: as.drop i, (rs.take i).map toI ++ bI :: (rs.drop i).map toI, i, rfl, SqL.of (by rw [h66, List.map_append, List.map_cons, List.append_assoc]; rfl), Rg.ins (hgO.mono s6) (r := bI) hb6 i i, bad_insN R il (by have := ins_flat (rs := rs) i i (Nat.le_refl _) bI; omega) bOk, fun H18 s18 => ?_⟩
            refine ⟨_, rfl, rfl, ?_⟩
            rw [show (decide (nv i = V.int ((d6 : Int) % (((as.map V.ref).length : Nat) + 1)))) = true from decide_eq_true (by rw [em]; rfl)]
            exact q _ (s0O.trans (s6.trans s18))
end
section
variable {P : Program} {w : World} {K : PySem.W.Frag} {mg : Str → Option Value} {base : Heap}
/-! ### the law -/
/-- what is due of the bound alone, and of bound and kind -/
def due1 (kd : Str) (m : Option Int) : List V := match m with
  | none => [.str "taken"]
  | some i => if i < 0 ∨ kd ≠ "swaps" then [.str "most", .int i] else [.str "taken"]
def due2 (kd : Str) (m : Option Int) : List V := if isKd kd = false then [.str "kind", .str kd] else due1 kd m
theorem dueOf_eq (t kd : Str) (m : Option Int) : dueOf t kd m = if isNm t = false then [.str "name", .str t] else due2 kd m := rfl
theorem strOk_of {t : Str} (h : Good t) : PyData.strOk t = true := by
  unfold PyData.strOk
  exact Array.all_eq_true_iff_forall_mem.mpr fun c hc => decide_eq_true (h c (Array.mem_toList_iff.mpr hc))
/-- what is due, as data -/
def dueD (t kd : Str) (m : Option Int) : List PyData :=
  if isNm t = false then [.str "name", .str t] else if isKd kd = false then [.str "kind", .str kd] else
    match m with
    | none => [.str "taken"]
    | some i => if i < 0 ∨ kd ≠ "swaps" then [.str "most", .int i] else [.str "taken"]
theorem lit_ok : PyData.strOk ("name" : Str) = true ∧ PyData.strOk ("kind" : Str) = true ∧ PyData.strOk ("most" : Str) = true ∧ PyData.strOk ("taken" : Str) = true := by decide +kernel
theorem sh1S {x : Str} (h : PyData.strOk x = true) : SeqAt.shaped (.tuple [.str x]) = true := by
  unfold SeqAt.shaped
  simp [PyData.canLay0, PyData.canLayAll0, PyData.depth, PyData.depthAll, h]
theorem sh2S {x y : Str} (h : PyData.strOk x = true) (h2 : PyData.strOk y = true) : SeqAt.shaped (.tuple [.str x, .str y]) = true := by
  unfold SeqAt.shaped
  simp [PyData.canLay0, PyData.canLayAll0, PyData.depth, PyData.depthAll, h, h2]
theorem sh2I {x : Str} (h : PyData.strOk x = true) (i : Int) : SeqAt.shaped (.tuple [.str x, .int i]) = true := by
  unfold SeqAt.shaped
  simp [PyData.canLay0, PyData.canLayAll0, PyData.depth, PyData.depthAll, h]
theorem due_dp {K : PySem.W.Frag} {H : Hp} {T : Addr} {t kd : Str} {m : Option Int} (h : H T = some (.tup (dueOf t kd m))) : Dp K H (.ref T) (.tuple (dueD t kd m)) := by
  refine .tup (SqT.of h) ?_
  unfold dueOf dueD
  split
  · exact .cons (.str _) (.cons (.str _) .nil)
  · split
    · exact .cons (.str _) (.cons (.str _) .nil)
    · cases m with
      | none => exact .cons (.str _) .nil
      | some i =>
        show DpAll K H (if i < 0 ∨ kd ≠ "swaps" then _ else _) (if i < 0 ∨ kd ≠ "swaps" then _ else _)
        split
        · exact .cons (.str _) (.cons (.int _) .nil)
        · exact .cons (.str _) .nil
theorem due_sh {t kd : Str} {m : Option Int} (g : Good t) (k : Good kd) : SeqAt.shaped (.tuple (dueD t kd m)) = true := by
  obtain ⟨l1, l2, l3, l4⟩ := lit_ok
  unfold dueD
  split
  · exact sh2S l1 (strOk_of g)
  · split
    · exact sh2S l2 (strOk_of k)
    · cases m with
      | none => exact sh1S l4
      | some i =>
        show SeqAt.shaped (.tuple (if i < 0 ∨ kd ≠ "swaps" then _ else _)) = true
        split
        · exact sh2I l3 i
        · exact sh1S l4
theorem due_eq (t kd : Str) (m : Option Int) : PyData.eqv (.tuple (dueD t kd m)) (.tuple (dueD t kd m)) = true := by
  unfold dueD
  split
  · simp [PyData.eqv, PyData.eqvAll]
  · split
    · simp [PyData.eqv, PyData.eqvAll]
    · cases m with
      | none => simp [PyData.eqv, PyData.eqvAll]
      | some i =>
        show PyData.eqv (.tuple (if i < 0 ∨ kd ≠ "swaps" then _ else _)) (.tuple (if i < 0 ∨ kd ≠ "swaps" then _ else _)) = true
        split <;> simp [PyData.eqv, PyData.eqvAll]
/-- what is due is "taken" just if nothing is wrong -/
theorem due_taken {t kd : Str} {m : Option Int} (h : PyData.eqv (.tuple (dueD t kd m)) (.tuple [.str "taken"]) = true) : isNm t = true ∧ isKd kd = true ∧ ∀ i, m = some i → 0 ≤ i ∧ kd = "swaps" := by
  unfold dueD at h
  split at h
  · simp [PyData.eqv, PyData.eqvAll] at h
  · rename_i n1
    split at h
    · simp [PyData.eqv, PyData.eqvAll] at h
    · rename_i n2
      refine ⟨by cases e : isNm t with | true => rfl | false => exact absurd e n1, by cases e : isKd kd with | true => rfl | false => exact absurd e n2, fun i e => ?_⟩
      subst e
      have h : PyData.eqv (.tuple (if i < 0 ∨ kd ≠ "swaps" then [.str "most", .int i] else [.str "taken"])) (.tuple [.str "taken"]) = true := h
      split at h
      · simp [PyData.eqv, PyData.eqvAll] at h
      · rename_i n3
        exact ⟨by apply Classical.byContradiction; intro z; exact n3 (.inl (by omega)), Classical.byContradiction fun z => n3 (.inr z)⟩
theorem step_ok {t s : Str} (h : Step t s) : s.length ≤ t.length + 1 ∧ (Good t → Good s) := by
  obtain ⟨i, j, m, hi, hj, hm, hc, e⟩ := h
  constructor
  · have := congrArg List.length e
    rw [List.length_append, List.length_append, List.length_take, List.length_drop, cs_len, cs_len] at this
    rw [cs_len] at hi
    omega
  · intro G c hc'
    rw [e] at hc'
    rcases List.mem_append.mp hc' with h | h
    · rcases List.mem_append.mp h with h | h
      · exact G c (List.mem_of_mem_take h)
      · rcases hc c h with z | z
        · omega
        · exact G c z
    · exact G c (List.mem_of_mem_drop h)
theorem empties (d : Nat) : ∃ t : Str, [("" : Str), ("abcdefghi" : Str)][d % 2]? = some t ∧ t.length ≤ 9 ∧ Good t := by
  have h : d % 2 = 0 ∨ d % 2 = 1 := by omega
  rcases h with h | h
  · rw [h]
    exact ⟨"", rfl, by decide +kernel, fun c hc => of_decide_eq_true (List.all_eq_true.mp (show (cs ("" : Str)).all (fun c => decide (c < 1114112)) = true from by decide +kernel) c hc)⟩
  · rw [h]
    exact ⟨"abcdefghi", rfl, by decide +kernel, fun c hc => of_decide_eq_true (List.all_eq_true.mp (show (cs ("abcdefghi" : Str)).all (fun c => decide (c < 1114112)) = true from by decide +kernel) c hc)⟩
theorem kinds3 {d : Nat} (hd : d < 3) : ∃ t : Str, [("wire" : Str), ("swaps" : Str), ("mirror" : Str)][d]? = some t ∧ t.length ≤ 9 ∧ Good t := by
  match d, hd with
  | 0, _ => exact ⟨"wire", rfl, by decide +kernel, fun c hc => of_decide_eq_true (List.all_eq_true.mp (show (cs ("wire" : Str)).all (fun c => decide (c < 1114112)) = true from by decide +kernel) c hc)⟩
  | 1, _ => exact ⟨"swaps", rfl, by decide +kernel, fun c hc => of_decide_eq_true (List.all_eq_true.mp (show (cs ("swaps" : Str)).all (fun c => decide (c < 1114112)) = true from by decide +kernel) c hc)⟩
  | 2, _ => exact ⟨"mirror", rfl, by decide +kernel, fun c hc => of_decide_eq_true (List.all_eq_true.mp (show (cs ("mirror" : Str)).all (fun c => decide (c < 1114112)) = true from by decide +kernel) c hc)⟩
theorem bounds5 (d : Nat) {e : Int} (h0 : 0 ≤ e) (h1 : e < 1000000000) {d7 : Nat} (h7 : d7 < 1000000) : ∃ m : Option Int, [none, some 0, some 1, some e, some (-(1 : Int) - (d7 : Int))][d % 5]? = some m ∧ ∀ i, m = some i → i.natAbs < 10 ^ 20 := by
  have big : (10 : Nat) ^ 20 = 100000000000000000000 := by decide
  have h : d % 5 = 0 ∨ d % 5 = 1 ∨ d % 5 = 2 ∨ d % 5 = 3 ∨ d % 5 = 4 := by omega
  rcases h with h | h | h | h | h
  · rw [h]
    exact ⟨none, rfl, fun i e => by cases e⟩
  · rw [h]
    exact ⟨some 0, rfl, fun i e => by cases e; decide⟩
  · rw [h]
    exact ⟨some 1, rfl, fun i e => by cases e; decide⟩
  · rw [h]
    exact ⟨some e, rfl, fun i e => by cases e; omega⟩
  · rw [h]
    exact ⟨some (-(1 : Int) - (d7 : Int)), rfl, fun i e => by cases e; omega⟩
theorem good_lit {t : Str} (h : (cs t).all (fun c => decide (c < 1114112)) = true) : Good t := fun c hc => of_decide_eq_true (List.all_eq_true.mp h c hc)
abbrev s_law : Stmt := top 46
theorem sc_law : FnScope ["_law_script", "_law_row_here", "_law_name_here", "_law_kind_here", "_law_bound", "_law_due", "_law_images", "_law_rings_here", "_law_ring", "_law_place"] ["_law_script"] (defScope s_law) := ⟨rfl, rfl, rfl, by decide +kernel, rfl, by decide +kernel, by decide +kernel⟩

def spLaw (K : PySem.W.Frag) : Sp := fun vs H Q _ => ∃ (a : Addr) (ns : List Int), vs = [.ref a] ∧ SqL K H a (ns.map V.int) ∧ ns.length ≤ 63 ∧ ∀ H', Q (.bl true) H'
set_option maxHeartbeats 1000000 in
theorem ok_law {f : Addr} {fd : FuncData} (F : Fun K "law" "law" s_law f fd) (T : Blt mg)
    (D_l_cell : DefOk P w K mg base CX0 1 "_law_cell" ["_law_script", "_law_k"] [] (spCell K)) (D_l_row : DefOk P w K mg base CX0 1 "_law_row" ["_law_cell_here", "_law_sizes"] [] (spRow K)) (D_l_name : DefOk P w K mg base CX0 1 "_law_name" ["_law_draw"] [] spName)
    (D_l_spoilt : DefOk P w K mg base CX0 2 "_law_spoilt" ["_law_text_here", "_law_kind_here", "_law_place", "_law_k"] [] spSpoilt) (D_l_is_known_kind : DefOk P w K mg base CX0 1 "_law_is_known_kind" ["_law_text_here"] [] spIsKind) (D_l_is_name : DefOk P w K mg base CX0 1 "_law_is_name" ["_law_text_here"] [] spIsName)
    (D_l_no_hole : DefOk P w K mg base CX0 8 "_law_no_hole" ["_law_name_here", "_law_kind_here", "_law_bound"] [] spNoHole) (D_l_holds_one : DefOk P w K mg base CX0 8 "_law_holds_one" ["_law_name_here", "_law_kind_here", "_law_bound"] [] spHoldsOne)
    (D_l_drawn : DefOk P w K mg base CX0 2 "_law_drawn" ["_law_cell_here", "_law_n"] [] spDrawn) (D_l_rings : DefOk P w K mg base CX0 1 "_law_rings" ["_law_images"] [] (spRings K)) (D_l_known_right : DefOk P w K mg base CX0 9 "_law_known_right" ["_law_rings_here", "_law_row_here"] [] (spKnownRight K)) :
    FnOk P w K mg base CX0 10 f fd ["_law_script"] (spLaw K) := by
  refine F.ok sc_law (fun vs H Q E h => ?_) (fun cdv A outer s H vs Q E hr h => ?_)
  · obtain ⟨a, ns, rfl, _⟩ := h; rfl
  · obtain ⟨a, ns, rfl, hS, hl, q⟩ := h
    have hu2 : (A.deeper (envOfC "law" (defScope s_law) s.heap.objs.size f cdv)).units + 64 < cLine := by have := hr.un; omega
    refine ⟨_, (pss_cons (ps_set (i := 1) sc_law.nd rfl (.inr rfl) (pe_d D_l_row hr pass0 (pa_cons (pe_d D_l_cell hr pass0 (pa_cons (pv 0) (pa_cons pe_int pa_nil))) (pa_cons (pe_lst (pa_cons pe_int (pa_cons pe_int (pa_cons pe_int (pa_cons pe_int (pa_cons pe_int (pa_cons pe_int (pa_cons pe_int (pa_cons (pe_op op_pow pe_int pe_int) (pa_cons pe_int (pa_cons pe_int (pa_cons pe_int (pa_cons pe_int (pa_cons pe_int pa_nil)))))))))))))) pa_nil))))
    (pss_cons (ps_set (i := 2) sc_law.nd rfl (.inl rfl) (pe_d D_l_name hr pass0 (pa_cons (pe_op op_mod (pe_callTy call_int1 (by rfl) T.int (by decide +kernel) (pa_cons (pe_d D_l_cell hr pass0 (pa_cons (pv 0) (pa_cons pe_int pa_nil))) pa_nil)) (pe_op op_pow pe_int pe_int)) pa_nil)))
    (pss_cons (ps_join (ps_if (pt_cmpR op_lt (pe_ix ix_list (pv 1) pe_int (fun _ _ => rfl)) pe_int (nomark _)) (pss_one (ps_set (i := 2) sc_law.nd rfl (.inl rfl) (pe_d D_l_spoilt hr pass0 (pa_cons (pv 2) (pa_cons (pe_op op_add pe_int (pe_op op_mod (pe_ix ix_list (pv 1) pe_int (fun _ _ => rfl)) pe_int)) (pa_cons (pe_ix ix_list (pv 1) pe_int (fun _ _ => rfl)) (pa_cons (pe_ix ix_list (pv 1) pe_int (fun _ _ => rfl)) pa_nil))))))) pss_nil))
    (pss_cons (ps_join (ps_if (pt_cmpR op_eq (pe_ix ix_list (pv 1) pe_int (fun _ _ => rfl)) pe_int (nomark _)) (pss_one (ps_set (i := 2) sc_law.nd rfl (.inl rfl) (pe_ix ix_list (pe_lst (pa_cons pe_str (pa_cons pe_str pa_nil))) (pe_op op_mod (pe_ix ix_list (pv 1) pe_int (fun _ _ => rfl)) pe_int) (fun _ _ => rfl)))) pss_nil))
    (pss_cons (ps_set (i := 3) sc_law.nd rfl (.inl rfl) (pe_ix ix_list (pe_lst (pa_cons pe_str (pa_cons pe_str (pa_cons pe_str pa_nil)))) (pe_ix ix_list (pv 1) pe_int (fun _ _ => rfl)) (fun _ _ => rfl)))
    (pss_cons (ps_join (ps_if (pt_cmpR op_eq (pe_ix ix_list (pv 1) pe_int (fun _ _ => rfl)) pe_int (nomark _)) (pss_one (ps_set (i := 3) sc_law.nd rfl (.inl rfl) (pe_d D_l_spoilt hr pass0 (pa_cons (pv 3) (pa_cons (pe_op op_add pe_int (pe_op op_mod (pe_ix ix_list (pv 1) pe_int (fun _ _ => rfl)) pe_int)) (pa_cons (pe_ix ix_list (pv 1) pe_int (fun _ _ => rfl)) (pa_cons (pe_ix ix_list (pv 1) pe_int (fun _ _ => rfl)) pa_nil))))))) pss_nil))
    (pss_cons (ps_set (i := 4) sc_law.nd rfl (.inl rfl) (pe_ix ix_list (pe_lst (pa_cons pe_non (pa_cons pe_int (pa_cons pe_int (pa_cons (pe_op op_mod (pe_callTy call_int1 (by rfl) T.int (by decide +kernel) (pa_cons (pe_d D_l_cell hr pass0 (pa_cons (pv 0) (pa_cons pe_int pa_nil))) pa_nil)) (pe_op op_pow pe_int pe_int)) (pa_cons (pe_op op_sub (pe_un un_neg pe_int) (pe_ix ix_list (pv 1) pe_int (fun _ _ => rfl))) pa_nil)))))) (pe_op op_mod (pe_ix ix_list (pv 1) pe_int (fun _ _ => rfl)) pe_int) (fun _ _ => rfl)))
    (pss_cons (ps_set (i := 5) sc_law.nd rfl (.inl rfl) (pe_tup (pa_cons pe_str pa_nil)))
    (pss_cons (ps_join (ps_if (PW.pt (pw_and (pt_cmpR op_notN (pv 4) pe_non (nomark _)) (pw_and1 (PW.pt (pw_or (pt_cmpR op_lt (pv 4) pe_int (nomark _)) (pw_or1 (pt_cmpR op_ne (pv 3) pe_str (nomark _)))))))) (pss_one (ps_set (i := 5) sc_law.nd rfl (.inl rfl) (pe_tup (pa_cons pe_str (pa_cons (pv 4) pa_nil))))) pss_nil))
    (pss_cons (ps_join (ps_if (pt_not (pt_truth (pe_d D_l_is_known_kind hr pass0 (pa_cons (pv 3) pa_nil)) (by intro _; rfl))) (pss_one (ps_set (i := 5) sc_law.nd rfl (.inl rfl) (pe_tup (pa_cons pe_str (pa_cons (pv 3) pa_nil))))) pss_nil))
    (pss_cons (ps_join (ps_if (pt_not (pt_truth (pe_d D_l_is_name hr pass0 (pa_cons (pv 2) pa_nil)) (by intro _; rfl))) (pss_one (ps_set (i := 5) sc_law.nd rfl (.inl rfl) (pe_tup (pa_cons pe_str (pa_cons (pv 2) pa_nil))))) pss_nil))
    (pss_cons (ps_if (pt_cmpR (op_neD hu2) (pe_d D_l_no_hole hr pass0 (pa_cons (pv 2) (pa_cons (pv 3) (pa_cons (pv 4) pa_nil)))) (pv 5) (nomark _)) (pss_one (ps_ret pe_bl)) pss_nil)
    (pss_cons (ps_join (ps_if (PW.pt (pw_and (pt_cmpR (op_eqD hu2) (pv 5) (pe_tup (pa_cons pe_str pa_nil)) (nomark _)) (pw_and1 (pt_not (pt_truth (pe_d D_l_holds_one hr pass0 (pa_cons (pv 2) (pa_cons (pv 3) (pa_cons (pv 4) pa_nil)))) (by intro _; rfl)))))) (pss_one (ps_ret pe_bl)) pss_nil))
    (pss_cons (ps_set (i := 6) sc_law.nd rfl (.inl rfl) (pe_d D_l_drawn hr pass0 (pa_cons (pe_d D_l_cell hr pass0 (pa_cons (pv 0) (pa_cons pe_int pa_nil))) (pa_cons (pe_op op_add pe_int (pe_ix ix_list (pv 1) pe_int (fun _ _ => rfl))) pa_nil))))
    (pss_cons (ps_set (i := 7) sc_law.nd rfl (.inl rfl) (pe_lst pa_nil))
    (pss_cons (ps_for PassesOwn.never rfl (pi_list (pe_d D_l_rings hr pass0 (pa_cons (pv 6) pa_nil))) (pg_name (i := 8) sc_law.nd rfl (.inl rfl)) (pss_one (ps_expr (pe_bm PySem.F.plainAttrs_list PySem.F.slot_list_append PySem.F.type_list_append mt_append (pv 7) (pa_cons (pe_lc (own := [("_law_place", 9)]) (tt := tYes) (te := tOp (rI0 fun i j => .int (i + j)) (tVar 9) (tOp (rIxL K) (tVar 1) (tC (.int 10)))) rfl sc_law.nd (pi_list (pv 8)) (blkOk_by (N := ["_law_script", "_law_row_here", "_law_name_here", "_law_kind_here", "_law_bound", "_law_due", "_law_images", "_law_rings_here", "_law_ring", "_law_place"]) (sc := defScope s_law) (by decide +kernel)) (fun _ _ _ _ _ => (pg_name (i := 9) sc_law.nd rfl (.inl rfl))) (fun _ _ _ _ _ => pts_nil) (fun _ _ _ _ _ => by exact (pe_op op_add (pv 9) (pe_ix ix_list (pv 1) pe_int (fun _ _ => rfl))))) pa_nil)))))
    (pss_one (ps_ret (pe_d D_l_known_right hr pass0 (pa_cons (pv 7) (pa_cons (pv 1) pa_nil))))))))))))))))))))), ?_⟩
    -- row
    refine ⟨_, rfl, a, ns, 1, rfl, hS, fun z1 => ⟨_, _, rfl, rfl, ⟨by decide, by decide, by decide⟩, by show 13 ≤ sizeLine; decide, fun L1 nL1 => ?_⟩⟩
    have sL1 := same_upd (o := .lst [.int 8, .int 10, .int 96, .int 10, .int 3, .int 5, .int 60, .int (10 ^ (6 : Int).toNat), .int 4, .int 12, .int 48, .int 9, .int 11]) nL1
    refine ⟨z1, L1, [8, 10, 96, 10, 3, 5, 60, 1000000, 4, 12, 48, 9, 11], rfl, SqL.of upd_same, by decide, by decide, fun ds row0 H2 s2 nr0 hr0 hl13 hb => ?_⟩
    have hl13 : ds.length = 13 := hl13
    have gi : ∀ j, j < 13 → ∃ d, ds[j]? = some d := fun j hj => ⟨_, List.getElem?_eq_getElem (by omega)⟩
    have ix : ∀ {j d : Nat}, ds[j]? = some d → atI (ds.map nv) ((j : Nat) : Int) = some (nv d) := fun {j d} h => atI_nat (by rw [List.getElem?_map, h]; rfl)
    obtain ⟨d0, e0⟩ := gi 0 (by decide)
    obtain ⟨d1, e1⟩ := gi 1 (by decide)
    obtain ⟨d2, e2⟩ := gi 2 (by decide)
    obtain ⟨d3, e3⟩ := gi 3 (by decide)
    obtain ⟨d4, e4⟩ := gi 4 (by decide)
    obtain ⟨d5, e5⟩ := gi 5 (by decide)
    obtain ⟨d6, e6⟩ := gi 6 (by decide)
    obtain ⟨d7, e7⟩ := gi 7 (by decide)
    obtain ⟨d8, e8⟩ := gi 8 (by decide)
    obtain ⟨d9, e9⟩ := gi 9 (by decide)
    obtain ⟨d10, e10⟩ := gi 10 (by decide)
    obtain ⟨d11, e11⟩ := gi 11 (by decide)
    obtain ⟨d12, e12⟩ := gi 12 (by decide)
    have b4 : d4 < 3 := hb 4 d4 3 e4 rfl
    have b7 : d7 < 1000000 := hb 7 d7 1000000 e7 rfl
    have b8 : d8 < 4 := hb 8 d8 4 e8 rfl
    have b9 : d9 < 12 := hb 9 d9 12 e9 rfl
    have b10 : d10 < 48 := hb 10 d10 48 e10 rfl
    have t2 : Same H H2 := sL1.trans s2
    have hS2 := t2.seq hS
    have hr2 : SqL K H2 row0 (ds.map nv) := SqL.of hr0
    have hq2 := hr0
    -- name
    refine ⟨_, rfl, a, ns, 0, rfl, hS2, fun z0 => ?_⟩
    refine .inl ⟨_, rfl, _, _, rfl, rfl, ⟨by decide, by decide, by decide⟩, _, _, rfl, rfl, by show (0 : Int) < 10 ^ (15 : Int).toNat; decide, (z0 % (10 ^ (15 : Int).toNat)).toNat, congrArg (fun v => [v]) (nat_int (Int.emod_nonneg _ (by decide))), fun t0 t1 t8 tlow => ?_⟩
    have g0 : Good t0 := fun c hc => by have := tlow c hc; omega
    -- spoilt
    refine ⟨fun σ H' => ∃ t : Str, σ = [some (.ref a), some (.ref row0), some (.str t), none, none, none, none, none, none, none] ∧ Same H2 H' ∧ t.length ≤ 9 ∧ Good t, ?_, ?_⟩
    · refine ⟨_, rfl, row0, _, 0, nv d0, rfl, rfl, hr2, ix e0, _, _, rfl, rfl, _, rfl, ?_⟩
      by_cases c : (d0 : Int) < 2
      · refine decT c ⟨_, rfl, _, rfl, row0, _, 3, nv d3, rfl, rfl, hr2, ix e3, _, _, rfl, rfl, by show (0 : Int) < 4; decide, _, _, rfl, rfl, ?_⟩
        refine ⟨_, rfl, row0, _, 1, nv d1, rfl, rfl, hr2, ix e1, _, rfl, row0, _, 2, nv d2, rfl, rfl, hr2, ix e2, t0, 1 + d3 % 4, d1, d2, rfl, by omega, fun s st => ?_⟩
        have so := step_ok st
        exact ⟨s, rfl, Same.refl _, by omega, so.2 g0⟩
      · exact decF c ⟨t0, rfl, Same.refl _, by omega, g0⟩
    · rintro σ H3 ⟨t, rfl, s3, tl, g1⟩
      have hr3 := s3.seq hr2
      have hq3 := s3 _ _ hq2
      have hS3 := s3.seq hS2
      clear tlow t1 t8 g0
      refine ⟨fun σ H' => ∃ t : Str, σ = [some (.ref a), some (.ref row0), some (.str t), none, none, none, none, none, none, none] ∧ Same H3 H' ∧ t.length ≤ 9 ∧ Good t, ?_, ?_⟩
      · refine ⟨_, rfl, row0, _, 0, nv d0, rfl, rfl, hr3, ix e0, rfl, _, rfl, ?_⟩
        by_cases c : nv d0 = V.int 2
        · refine decT c ⟨by show 2 ≤ sizeLine; decide, fun p np => ?_⟩
          obtain ⟨t', ht', l', g'⟩ := empties d1
          have u := same_upd (o := .lst [V.str "", V.str "abcdefghi"]) np
          refine ⟨_, rfl, row0, _, 1, nv d1, rfl, rfl, u.seq hr3, ix e1, _, _, rfl, rfl, by show (0 : Int) < 2; decide, p, [V.str "", V.str "abcdefghi"], _, V.str t', rfl, rfl, SqL.of upd_same, ?_, ?_⟩
          · refine atI_nat (j := d1 % 2) ?_
            show ([("" : Str), ("abcdefghi" : Str)].map V.str)[d1 % 2]? = _
            rw [List.getElem?_map, ht']
            rfl
          · exact ⟨t', rfl, u, l', g'⟩
        · exact decF c ⟨t, rfl, Same.refl _, tl, g1⟩
      · rintro σ H4 ⟨t, rfl, s4, tl, g1⟩
        have hr4 := s4.seq hr3
        have hq4 := s4 _ _ hq3
        have hS4 := s4.seq hS3
        -- kind
        refine ⟨by show 3 ≤ sizeLine; decide, fun p np => ?_⟩
        have u := same_upd (o := .lst [V.str "wire", V.str "swaps", V.str "mirror"]) np
        obtain ⟨k0, hk0, kl0, kg0⟩ := kinds3 b4
        refine ⟨_, rfl, row0, _, 4, nv d4, rfl, rfl, u.seq hr4, ix e4, p, [V.str "wire", V.str "swaps", V.str "mirror"], _, V.str k0, rfl, rfl, SqL.of upd_same, atI_nat (j := d4) ?_, ?_⟩
        · show ([("wire" : Str), ("swaps" : Str), ("mirror" : Str)].map V.str)[d4]? = _
          rw [List.getElem?_map, hk0]
          rfl
        have hr5 := u.seq hr4
        have hq5 := u _ _ hq4
        have hS5 := u.seq hS4
        generalize upd H4 p (.lst [V.str "wire", V.str "swaps", V.str "mirror"]) = H5 at hr5 hq5 hS5 ⊢
        refine ⟨fun σ H' => ∃ kd : Str, σ = [some (.ref a), some (.ref row0), some (.str t), some (.str kd), none, none, none, none, none, none] ∧ Same H5 H' ∧ Good kd, ?_, ?_⟩
        · refine ⟨_, rfl, row0, _, 5, nv d5, rfl, rfl, hr5, ix e5, rfl, _, rfl, ?_⟩
          by_cases c : nv d5 = V.int 0
          · refine decT c ⟨_, rfl, _, rfl, row0, _, 3, nv d3, rfl, rfl, hr5, ix e3, _, _, rfl, rfl, by show (0 : Int) < 4; decide, _, _, rfl, rfl, _, rfl, row0, _, 11, nv d11, rfl, rfl, hr5, ix e11, _, rfl, row0, _, 2, nv d2, rfl, rfl, hr5, ix e2, k0, 1 + d3 % 4, d11, d2, rfl, by omega, fun s st => ?_⟩
            exact ⟨s, rfl, Same.refl _, (step_ok st).2 kg0⟩
          · exact decF c ⟨k0, rfl, Same.refl _, kg0⟩
        · rintro σ H6 ⟨kd, rfl, s6, kg⟩
          have hr6 := s6.seq hr5
          have hq6 := s6 _ _ hq5
          have hS6 := s6.seq hS5
          -- bound
          refine ⟨_, rfl, a, ns, 2, rfl, hS6, fun z2 => ?_⟩
          refine .inl ⟨_, rfl, _, _, rfl, rfl, ⟨by decide, by decide, by decide⟩, _, _, rfl, rfl, by show (0 : Int) < 10 ^ (9 : Int).toNat; decide, ?_⟩
          have p9 : (10 : Int) ^ (9 : Int).toNat = 1000000000 := by decide
          obtain ⟨e, he⟩ : ∃ e : Int, e = z2 % (10 ^ (9 : Int).toNat) := ⟨_, rfl⟩
          have he0 : 0 ≤ e := by rw [he]; exact Int.emod_nonneg _ (by decide)
          have he1 : e < 1000000000 := by rw [he, p9]; exact Int.emod_lt_of_pos _ (by decide)
          refine ⟨_, rfl, _, rfl, row0, _, 7, nv d7, rfl, rfl, hr6, ix e7, _, _, rfl, rfl, by show 5 ≤ sizeLine; decide, fun pB npB => ?_⟩
          have u7 := same_upd (o := .lst [V.non, V.int 0, V.int 1, V.int (z2 % (10 ^ (9 : Int).toNat)), V.int (-(1 : Int) - (d7 : Int))]) npB
          obtain ⟨m, hm, hmb⟩ := bounds5 d12 he0 he1 b7
          refine ⟨_, rfl, row0, _, 12, nv d12, rfl, rfl, u7.seq hr6, ix e12, _, _, rfl, rfl, by show (0 : Int) < 5; decide, pB, [V.non, V.int 0, V.int 1, V.int (z2 % (10 ^ (9 : Int).toNat)), V.int (-(1 : Int) - (d7 : Int))], _, optV m, rfl, rfl, SqL.of upd_same, atI_nat (j := d12 % 5) ?_, ?_⟩
          · rw [← he]
            show ([none, some 0, some 1, some e, some (-(1 : Int) - (d7 : Int))].map optV)[d12 % 5]? = _
            rw [List.getElem?_map, hm]
            rfl
          have hr7 := u7.seq hr6
          have hq7 := u7 _ _ hq6
          have hS7 := u7.seq hS6
          generalize upd H6 pB (.lst [V.non, V.int 0, V.int 1, V.int (z2 % (10 ^ (9 : Int).toNat)), V.int (-(1 : Int) - (d7 : Int))]) = H7 at hr7 hq7 hS7 ⊢
          clear hm he he0 he1 p9
          -- what is due
          refine ⟨by show 1 ≤ sizeLine; decide, fun pT npT => ?_⟩
          have uT := same_upd (o := .tup [V.str "taken"]) npT
          have hT0 : (upd H7 pT (.tup [V.str "taken"])) pT = some (.tup [V.str "taken"]) := upd_same
          have hr8 := uT.seq hr7
          have hq8 := uT _ _ hq7
          have hS8 := uT.seq hS7
          generalize upd H7 pT (.tup [V.str "taken"]) = H8 at hr8 hq8 hS8 hT0 ⊢
          refine ⟨fun σ H' => ∃ T1 : Addr, σ = [some (.ref a), some (.ref row0), some (.str t), some (.str kd), some (optV m), some (.ref T1), none, none, none, none] ∧ Same H8 H' ∧ H' T1 = some (.tup (due1 kd m)), ?_, ?_⟩
          · cases m with
            | none =>
              refine ⟨_, rfl, rfl, _, rfl, ?_⟩
              exact iteF (iteF ⟨pT, rfl, Same.refl _, hT0⟩)
            | some i =>
              refine ⟨_, rfl, rfl, _, rfl, iteT ?_⟩
              refine ⟨_, rfl, _, _, rfl, rfl, _, rfl, ?_⟩
              by_cases c : i < 0
              · refine decT c (iteT ⟨_, rfl, by show 2 ≤ sizeLine; decide, fun T nT => ⟨T, rfl, same_upd nT, ?_⟩⟩)
                rw [upd_same, show due1 kd (some i) = [V.str "most", V.int i] from if_pos (.inl c)]
                rfl
              · refine decF c ⟨_, rfl, rfl, _, rfl, ?_⟩
                by_cases c2 : kd = "swaps"
                · have e2 : (!decide (V.str kd = V.str "swaps")) = false := by rw [decide_eq_true (by rw [c2])]; rfl
                  rw [e2]
                  refine iteF ⟨pT, rfl, Same.refl _, ?_⟩
                  rw [hT0, show due1 kd (some i) = [V.str "taken"] from if_neg (fun h => h.elim c fun z => z c2)]
                · have e2 : (!decide (V.str kd = V.str "swaps")) = true := by rw [decide_eq_false (fun z => c2 (V.str.inj z))]; rfl
                  rw [e2]
                  refine iteT ⟨_, rfl, by show 2 ≤ sizeLine; decide, fun T nT => ⟨T, rfl, same_upd nT, ?_⟩⟩
                  rw [upd_same, show due1 kd (some i) = [V.str "most", V.int i] from if_pos (.inr c2)]
                  rfl
          · rintro σ H9 ⟨T1, rfl, s9, hT1⟩
            refine ⟨fun σ H' => ∃ T1 : Addr, σ = [some (.ref a), some (.ref row0), some (.str t), some (.str kd), some (optV m), some (.ref T1), none, none, none, none] ∧ Same H8 H' ∧ H' T1 = some (.tup (due2 kd m)), ?_, ?_⟩
            · refine ⟨_, rfl, kd, rfl, fun H10 s10 => ?_⟩
              cases hk : isKd kd with
              | true =>
                refine ⟨true, rfl, iteF ⟨T1, rfl, s9.trans s10, ?_⟩⟩
                rw [s10 _ _ hT1, show due2 kd m = due1 kd m from if_neg (by rw [hk]; decide)]
              | false =>
                refine ⟨false, rfl, iteT ⟨_, rfl, by show 2 ≤ sizeLine; decide, fun T nT => ⟨T, rfl, (s9.trans s10).trans (same_upd nT), ?_⟩⟩⟩
                rw [upd_same, show due2 kd m = [V.str "kind", V.str kd] from if_pos hk]
            · rintro σ H10 ⟨T2, rfl, s10, hT2⟩
              refine ⟨fun σ H' => ∃ T1 : Addr, σ = [some (.ref a), some (.ref row0), some (.str t), some (.str kd), some (optV m), some (.ref T1), none, none, none, none] ∧ Same H8 H' ∧ H' T1 = some (.tup (dueOf t kd m)), ?_, ?_⟩
              · refine ⟨_, rfl, t, rfl, by omega, g1, fun H11 s11 => ?_⟩
                cases hn : isNm t with
                | true =>
                  refine ⟨true, rfl, iteF ⟨T2, rfl, s10.trans s11, ?_⟩⟩
                  rw [s11 _ _ hT2, dueOf_eq, if_neg (by rw [hn]; decide)]
                | false =>
                  refine ⟨false, rfl, iteT ⟨_, rfl, by show 2 ≤ sizeLine; decide, fun T nT => ⟨T, rfl, (s10.trans s11).trans (same_upd nT), ?_⟩⟩⟩
                  rw [upd_same, dueOf_eq, if_pos hn]
              · rintro σ H11 ⟨T3, rfl, s11, hT3⟩
                have hr11 := s11.seq hr8
                have hq11 := s11 _ _ hq8
                have hS11 := s11.seq hS8
                refine ⟨_, rfl, _, rfl, _, rfl, t, kd, m, rfl, by omega, g1, hmb, fun T4 H12 s12 nT4 hT4 => ?_⟩
                refine ⟨_, rfl, _, _, due_dp hT4, due_dp (s12 _ _ hT3), due_sh g1 kg, due_sh g1 kg, ?_⟩
                rw [due_eq]
                refine ⟨false, rfl, iteF ?_⟩
                have s812 := s11.trans s12
                refine ⟨fun σ H' => σ = [some (.ref a), some (.ref row0), some (.str t), some (.str kd), some (optV m), some (.ref T3), none, none, none, none] ∧ Same H12 H', ?_, ?_⟩
                · refine ⟨_, rfl, by show 1 ≤ sizeLine; decide, fun T5 nT5 => ?_⟩
                  have u5 := same_upd (o := .tup [V.str "taken"]) nT5
                  have dpT : Dp K (upd H12 T5 (.tup [V.str "taken"])) (.ref T5) (.tuple [.str "taken"]) := .tup (SqT.of upd_same) (.cons (.str _) .nil)
                  refine ⟨_, _, due_dp (u5 _ _ (s12 _ _ hT3)), dpT, due_sh g1 kg, sh1S lit_ok.2.2.2, ?_⟩
                  cases ht : PyData.eqv (.tuple (dueD t kd m)) (.tuple [.str "taken"]) with
                  | false => exact ⟨false, rfl, iteF (iteF ⟨rfl, u5⟩)⟩
                  | true =>
                    obtain ⟨k1, k2, k3⟩ := due_taken ht
                    refine ⟨true, rfl, iteT ?_⟩
                    refine ⟨_, rfl, _, rfl, _, rfl, t, kd, m, rfl, by omega, g1, hmb, k1, k2, k3, fun H13 s13 => ⟨true, rfl, iteF ⟨rfl, u5.trans s13⟩⟩⟩
                · rintro σ H13 ⟨rfl, s13⟩
                  have s8D := s812.trans s13
                  have hrD := s8D.seq hr8
                  have hqD := s8D _ _ hq8
                  have hSD := s8D.seq hS8
                  -- the map
                  refine ⟨_, rfl, a, ns, 3, rfl, hSD, fun z3 => ?_⟩
                  refine ⟨_, rfl, row0, _, 9, nv d9, rfl, rfl, hrD, ix e9, _, _, rfl, rfl, z3, 1 + d9, rfl, by omega, fun im p1 H14 s14 np1 hp1 hI hn => ?_⟩
                  refine ⟨Nat.zero_le _, fun pR npR => ?_⟩
                  have uR := same_upd (o := .lst []) npR
                  have hR0 : (upd H14 pR (.lst [])) pR = some (.lst []) := upd_same
                  have hp1R := uR _ _ hp1
                  have sDR := s14.trans uR
                  have hRn : H13 pR = none := s14.free npR
                  generalize upd H14 pR (.lst []) = H15 at uR hR0 hp1R sDR ⊢
                  refine ⟨_, rfl, p1, im, rfl, SqL.of hp1R, hI, by omega, fun o9 as9 H16 s16 no9 nas9 hoa9 hnd9 ho9 hg9 => ?_⟩
                  refine ⟨o9, rfl, ⟨_, SqL.of ho9⟩, for_list (K := K) (a := o9) (xs := as9.map V.ref) (fun i σ H' => ∃ (v8 : Option V) (bs : List Addr), σ = [some (.ref a), some (.ref row0), some (.str t), some (.str kd), some (optV m), some (.ref T3), some (.ref p1), some (.ref pR), v8, none] ∧
                      Same H13 H' ∧ H' o9 = some (.lst (as9.map V.ref)) ∧ Rg H' as9 (rings (ap im) im.length) ∧ H' pR = some (.lst (bs.map V.ref)) ∧ bs.length = i ∧ pR ∉ bs ∧ Rg H' bs (((rings (ap im) im.length).take i).map (upL d10)))
                    ⟨none, [], rfl, sDR.trans s16, ho9, hg9, s16 _ _ hR0, rfl, (by intro h; cases h), Rg.nil⟩ (fun i σ H' _ ⟨_, _, _, _, h, _⟩ => SqL.of h) ?_ ?_⟩
                  · rintro i y σ H' hi ⟨v8, bs, rfl, sH, ho, hg, hR, bl, nR, bg⟩
                    obtain ⟨b, hb, rfl⟩ : ∃ b, as9[i]? = some b ∧ y = V.ref b := by
                      rw [List.getElem?_map] at hi
                      cases e : as9[i]? with
                      | none => rw [e] at hi; cases hi
                      | some b => rw [e] at hi; exact ⟨b, rfl, (Option.some.inj hi).symm⟩
                    have hil : i < (rings (ap im) im.length).length := by rw [← hg.len]; exact (List.getElem?_eq_some_iff.mp hb).1
                    obtain ⟨r, hr'⟩ : ∃ r, (rings (ap im) im.length)[i]? = some r := ⟨_, List.getElem?_eq_getElem hil⟩
                    have hbr := hg.at_ i b r hb hr'
                    have tot := rings_total hI.perm
                    have rl := mem_len (List.mem_of_getElem? hr')
                    have few := rows_leK (ws := rings (ap im) im.length) fun q hq => rings_ne hI.perm hq
                    have oR : o9 ≠ pR := fun e => by
                      rw [e, hR0] at no9
                      cases no9
                    have aR : ∀ c ∈ as9, c ≠ pR := fun c hc e => by
                      have := nas9 c hc
                      rw [e, hR0] at this
                      cases this
                    refine ⟨_, rfl, .inl ⟨rfl, _, SqL.of hR⟩, _, rfl, b, rfl, ⟨_, SqL.of hbr⟩, fun D nD => ?_⟩
                    refine lc_list (K := K) (a := b) (xs := r.map nv) (fun j H2 => Same H' H2 ∧ H2 D = some (.lst ((upL d10 (r.take j)).map nv))) ⟨same_upd nD, upd_same⟩ (fun j H2 _ ⟨s2, _⟩ => SqL.of (s2 _ _ hbr)) ?_ ?_
                    · rintro j y H2 hj ⟨s2, hD2⟩
                      obtain ⟨x, hx', rfl⟩ := of_nv_get hj
                      refine ⟨rfl, yesT ?_⟩
                      refine ⟨_, rfl, _, rfl, row0, _, 10, nv d10, rfl, rfl, (sH.trans s2).seq hrD, ix e10, _, _, rfl, rfl, _, hD2, small64 (by unfold upL; rw [List.length_map, List.length_map, List.length_take]; omega), mutS s2 nD, ?_⟩
                      rw [upd_same, List.take_add_one, hx']
                      unfold upL
                      rw [List.map_append, List.map_append]
                      rfl
                    · rintro H2 ⟨s2, hD2⟩
                      rw [List.length_map, List.take_length] at hD2
                      have DR : D ≠ pR := fun e => by rw [e, hR] at nD; cases nD
                      refine ⟨pR, _, _, rfl, rfl, s2 _ _ hR, small64 (by rw [List.length_map]; omega), ?_⟩
                      refine ⟨_, bs ++ [D], rfl, mutS (sH.trans s2) hRn, by rw [upd_ne oR]; exact s2 _ _ ho, ?_, by rw [upd_same, List.map_append]; rfl, by rw [List.length_append, bl]; rfl, ?_, ?_⟩
                      · exact (hg.mono s2).upd fun h => aR pR h rfl
                      · intro h
                        rcases List.mem_append.mp h with h | h
                        · exact nR h
                        · exact DR (List.mem_singleton.mp h).symm
                      · rw [List.take_add_one, hr', List.map_append]
                        refine Rg.upd (Rg.snoc (bg.mono s2) hD2) fun h => ?_
                        rcases List.mem_append.mp h with h | h
                        · exact nR h
                        · exact DR (List.mem_singleton.mp h).symm
                  · rintro σ H' ⟨v8, bs, rfl, sH, ho, hg, hR, bl, nR, bg⟩
                    rw [List.length_map, hg.len, List.take_length] at bg
                    refine ⟨_, rfl, _, rfl, pR, row0, shf (ap im) d10, im.length + d10, bs, ds, d6, d7, d8, rfl, hR, shf_perm hI.perm, by omega, ?_, sH _ _ hqD, e6, e7, e8, b8, fun H17 _ => q H17⟩
                    rw [shf_rings hI.perm]
                    exact bg
end
section
variable {K : PySem.W.Frag} {f : Addr} {fd : FuncData}
theorem kb_hole (F : FunD K "hole" "Word.hole" (defArgs s_Word_hole) (defBody s_Word_hole) (defScope s_Word_hole) [.str "wire"] [("most", .non)] f fd) : ∃ gU, KBn K fd ["name", "kind", "most"] 2 ["most"] gU gHole := by
  obtain ⟨its, mv, h⟩ := F.kbinds (ps := ["name", "kind", "most"]) 2 ["most"] [] (fun vs _ _ zs => vs ++ zs) (by simp) (by simp) (by simp) (fun h1 _ _ h4 => h1.append h4) (fun T D doc pm an cdv ct us its mv ws l1 l2 l3 l4 => match us, its, mv, ws, l1, l2, l3, l4 with
    | [_, _], [_], [], [_], _, _, _, _ => ⟨_, rfl, rfl⟩)
  exact ⟨_, h⟩
theorem kb_hole1 (F : FunD K "hole" "Word.hole" (defArgs s_Word_hole) (defBody s_Word_hole) (defScope s_Word_hole) [.str "wire"] [("most", .non)] f fd) : ∃ gU, KBn K fd ["name", "kind", "most"] 1 [] gU gHole1 := by
  obtain ⟨its, mv, h⟩ := F.kbinds (ps := ["name", "kind", "most"]) 1 [] [("most", .non)] (fun vs ds mz _ => vs ++ ds ++ mz) (by simp) (by simp) (by simp) (fun h1 h2 h3 _ => (h1.append h2).append h3) (fun T D doc pm an cdv ct us its mv ws l1 l2 l3 l4 => match us, its, mv, ws, l1, l2, l3, l4 with
    | [_], [_], [_], [], _, _, _, _ => ⟨_, rfl, _, _, _, _, _, _, rfl, rfl, rfl⟩)
  exact ⟨_, h⟩
end
/-! ### the classes in the written part -/
abbrev veT : List Value := [.type "ValueError", .type "Exception", .type "BaseException", .type "object"]
def ErrAt (K : PySem.W.Frag) (C W : Addr) : Prop := ∃ nm q N bs sn sub ab col dd k0 k1 k2 k3 k5, K.lookup C = some (excClassObj nm q C N bs (.ref W :: veT) true sn sub ab col dd k0 k1 k2 k3 k5 "ValueError.__new__")
def ErrAt' (K : PySem.W.Frag) (C : Addr) : Prop := ∃ nm q N bs bm sn sub ab col dd k0 k1 k2 k3 k5, K.lookup C = some (excClassObj nm q C N bs bm true sn sub ab col dd k0 k1 k2 k3 k5 "ValueError.__new__")
section
variable {K : PySem.W.Frag} {C D W : Addr}
theorem ErrAt.to (h : ErrAt K C W) : ErrAt' K C := by
  obtain ⟨nm, q, N, bs, sn, sub, ab, col, dd, k0, k1, k2, k3, k5, e⟩ := h
  exact ⟨nm, q, N, bs, _, sn, sub, ab, col, dd, k0, k1, k2, k3, k5, e⟩
theorem ErrAt'.ok (h : ErrAt' K C) : ((PySem.W.clsIn K C).isSome && PySem.W.typeIn K (.ref C) == some (.type "type")) = true := by
  obtain ⟨nm, q, N, bs, bm, sn, sub, ab, col, dd, k0, k1, k2, k3, k5, e⟩ := h
  have ty : PySem.W.typeIn K (.ref C) = some (.type "type") := by
    show (K.lookup C).map (·.cls) = _
    rw [e]
    rfl
  rw [ty]
  unfold PySem.W.clsIn
  rw [e]
  simp
theorem ErrAt.sub (h : ErrAt K C W) (v : Value) : PySem.W.subIn K (.ref C) v = some ((Value.ref C :: .ref W :: veT).contains v) := by
  obtain ⟨nm, q, N, bs, sn, sub, ab, col, dd, k0, k1, k2, k3, k5, e⟩ := h
  show PySem.W.mroIn K C v = _
  unfold PySem.W.mroIn PySem.W.clsIn
  rw [e]
  rfl
theorem ErrAt.errC (h : ErrAt K C W) (sa : PySem.W.findIn K (.ref C) "__setattr__" = some (some (.builtin "object.__setattr__"))) (ga : PySem.W.findIn K (.ref C) "__getattribute__" = some (some (.builtin "BaseException.__getattribute__")))
    (gg : PySem.W.findIn K (.ref C) "__getattr__" = some none) (cl : PySem.W.findIn K (.ref C) "__class__" = some (some (.builtin "object.__class__"))) (kc : PySem.W.keepIn K (.ref C) = true)
    (hget : PySem.W.specialIn K (.builtin "object.__class__") "__get__" = some (some (.builtin "getset_descriptor.__get__"))) (htk : PySem.W.takesIn K (.builtin "object.__class__") = some true) : ErrC K C := by
  have b : PySem.W.subIn K (.ref C) (.type "BaseException") = some true := by
    rw [h.sub]
    simp
  have o : PySem.W.mroIn K C (.type "object") = some true := by
    have z := h.sub (.type "object")
    have e : (Value.ref C :: .ref W :: veT).contains (.type "object") = true := by simp
    rw [e] at z
    exact z
  obtain ⟨nm, q, N, bs, sn, sub, ab, col, dd, k0, k1, k2, k3, k5, e⟩ := id h
  have hd : PySem.W.hasDictIn K C = true := by unfold PySem.W.hasDictIn PySem.W.clsIn; rw [e]; rfl
  have ty : PySem.W.typeIn K (.ref C) = some (.type "type") := by show (K.lookup C).map (·.cls) = _; rw [e]; rfl
  exact ⟨⟨⟨nm, q, N, bs, _, sn, sub, ab, col, dd, k0, k1, k2, k3, k5, e, (by show PySem.HandSPX.refsVE veT = true; decide +kernel)⟩, sa, b, ty, kc⟩, ⟨ga, gg, b, hd⟩, ⟨ga, gg, b, hd, cl, hget, htk, o⟩⟩
theorem ErrAt.kitV (h : ErrAt K C W) : PySem.W.kitOne K (.ref C) (.type "ValueError") = some true := by
  unfold PySem.W.kitOne PySem.W.kitCls
  rw [if_neg (by simp)]
  show (if PySem.W.kitMeta "ValueError" = true then _ else _) = _
  rw [if_pos (by decide +kernel), h.sub]
  simp
theorem ErrAt.kitW (h : ErrAt K C W) (hW : ErrAt' K W) : PySem.W.kitOne K (.ref C) (.ref W) = some true := by
  unfold PySem.W.kitOne PySem.W.kitCls
  by_cases c : C = W
  · rw [if_pos (by rw [c]; exact beq_self_eq_true _)]
  · rw [if_neg (by intro z; exact c (Value.ref.inj (beq_iff_eq.mp z)))]
    show (if _ then _ else _) = _
    rw [if_pos hW.ok, h.sub]
    simp
theorem ErrAt.kitD (h : ErrAt K C W) (hD : ErrAt K D W) (ne : D ≠ W) : PySem.W.kitOne K (.ref C) (.ref D) = some (decide (D = C)) := by
  unfold PySem.W.kitOne PySem.W.kitCls
  by_cases c : C = D
  · rw [if_pos (by rw [c]; exact beq_self_eq_true _), decide_eq_true c.symm]
  · rw [if_neg (by intro z; exact c (Value.ref.inj (beq_iff_eq.mp z)))]
    show (if _ then _ else _) = _
    rw [if_pos hD.to.ok, h.sub, decide_eq_false (fun z => c z.symm)]
    have : (Value.ref C :: .ref W :: veT).contains (.ref D) = false := by
      rw [Bool.eq_false_iff]
      intro z
      rw [List.contains_iff_mem] at z
      rcases List.mem_cons.mp z with z | z
      · exact c (Value.ref.inj z).symm
      rcases List.mem_cons.mp z with z | z
      · exact ne (Value.ref.inj z)
      · simp at z
    rw [this]
theorem nod_ne {l : List Addr} {w : Addr} (h : (l ++ [w]).Nodup) {i j : Nat} (hi : i < l.length) (hj : j < l.length) : decide (l.getD j 0 = l.getD i 0) = decide (j = i) ∧ l.getD j 0 ≠ w := by
  have hl := (List.nodup_append.mp h).1
  have gi : l.getD i 0 = l[i] := by rw [List.getD_eq_getElem?_getD, List.getElem?_eq_getElem hi]; rfl
  have gj : l.getD j 0 = l[j] := by rw [List.getD_eq_getElem?_getD, List.getElem?_eq_getElem hj]; rfl
  constructor
  · by_cases c : j = i
    · subst c
      rw [decide_eq_true rfl, decide_eq_true rfl]
    · rw [decide_eq_false c, decide_eq_false]
      rw [gi, gj]
      intro z
      exact c ((List.getElem_inj hl).mp z)
  · rw [gj]
    intro z
    exact (List.nodup_append.mp h).2.2 _ (List.getElem_mem hj) _ (List.mem_singleton.mpr rfl) z
theorem ErrAt.kit {l : List Addr} {i j : Nat} (h : ErrAt K (l.getD i 0) W) (hD : ErrAt K (l.getD j 0) W) (hi : i < l.length) (hj : j < l.length) (nod : (l ++ [W]).Nodup) :
    PySem.W.kitOne K (.ref (l.getD i 0)) (.ref (l.getD j 0)) = some (decide (j = i)) := by
  obtain ⟨a, b⟩ := nod_ne nod hi hj
  rw [h.kitD hD b, a]
end
theorem ErrAt.exm {K : PySem.W.Frag} {C W : Addr} (h : ErrAt K C W) : PySem.W.exmOne K (.ref C) (.ref C) = some true := by
  have a : (PySem.W.subIn K (.ref C) (.type "BaseException") == some true) = true := by rw [h.sub]; simp
  unfold PySem.W.exmOne
  rw [if_pos a]
  unfold PySem.W.kitCls
  show (if _ then _ else _) = _
  rw [if_pos h.to.ok, h.sub]
  simp
theorem ErrAt.exmNo {K : PySem.W.Frag} {C D W : Addr} (h : ErrAt K C W) (hD : ErrAt K D W) (n1 : D ≠ C) (n2 : D ≠ W) : PySem.W.exmOne K (.ref C) (.ref D) = some false := by
  have a : (PySem.W.subIn K (.ref D) (.type "BaseException") == some true) = true := by rw [hD.sub]; simp
  unfold PySem.W.exmOne
  rw [if_pos a]
  unfold PySem.W.kitCls
  show (if _ then _ else _) = _
  rw [if_pos hD.to.ok, h.sub]
  simp [n1, n2]
theorem kitNo {K : PySem.W.Frag} {C : Addr} {t : Value} (h : ((PySem.W.clsIn K C).isSome && PySem.W.typeIn K (.ref C) == some (.type "type")) = true) (nf : PySem.W.notFirst K C t = true) (ne : (t == .ref C) = false) : PySem.W.kitOne K t (.ref C) = some false := by
  unfold PySem.W.notFirst at nf
  rw [ne, Bool.false_or] at nf
  unfold PySem.W.kitOne
  rw [if_neg (by rw [ne]; exact Bool.noConfusion)]
  unfold PySem.W.kitCls
  show (if _ then _ else _) = _
  rw [if_pos h]
  exact beq_iff_eq.mp nf
set_option maxHeartbeats 4000000 in
theorem all_mk {l : PySem.W.OpenLaw} {w : World} {K : PySem.W.Frag} {h : Heap} {mg : Str → Option Value} {fa C_Part C_Word C_WireError C_NoName C_NoKind C_NoMost C_NoRing f_l_cell f_l_row f_l_drawn f_l_rings f_l_text f_l_sign f_l_spoilt f_l_name f_l_is_name f_l_is_known_kind f_moves_of T_moves_of f_rings_of f_rings_text f_is_name f_Part_init f_Part_eq f_known_part f_part_text f_one_form f_Word_init f_Word_hole T_Word_hole KD_Word_hole f_Word_known f_Word_holes pp_Word_holes f_Word_kinds pp_Word_kinds f_Word_named pp_Word_named f_Word_eq f_Word_len f_Word_str f_NoName_init f_NoKind_init f_NoMost_init f_NoRing_init f_l_no_hole f_l_holds_one f_l_no_known f_l_known_right f_law : Addr} (X : K.In h) (G : h.Ns mainGlobals mg) (hfa : mg "law" = some (.ref fa))
    {nm_WireError qn_WireError : Str} {N_WireError : Addr} {bs_WireError : List Value} {sn_WireError : List Str} {sub_WireError : List Value} {ab_WireError : Bool} {col_WireError : Option Bool} {dd_WireError : Option Addr} {k0_WireError k1_WireError k2_WireError k3_WireError k5_WireError : Option Value}
    {nm_NoName qn_NoName : Str} {N_NoName : Addr} {bs_NoName : List Value} {sn_NoName : List Str} {sub_NoName : List Value} {ab_NoName : Bool} {col_NoName : Option Bool} {dd_NoName : Option Addr} {k0_NoName k1_NoName k2_NoName k3_NoName k5_NoName : Option Value}
    {nm_NoKind qn_NoKind : Str} {N_NoKind : Addr} {bs_NoKind : List Value} {sn_NoKind : List Str} {sub_NoKind : List Value} {ab_NoKind : Bool} {col_NoKind : Option Bool} {dd_NoKind : Option Addr} {k0_NoKind k1_NoKind k2_NoKind k3_NoKind k5_NoKind : Option Value}
    {nm_NoMost qn_NoMost : Str} {N_NoMost : Addr} {bs_NoMost : List Value} {sn_NoMost : List Str} {sub_NoMost : List Value} {ab_NoMost : Bool} {col_NoMost : Option Bool} {dd_NoMost : Option Addr} {k0_NoMost k1_NoMost k2_NoMost k3_NoMost k5_NoMost : Option Value}
    {nm_NoRing qn_NoRing : Str} {N_NoRing : Addr} {bs_NoRing : List Value} {sn_NoRing : List Str} {sub_NoRing : List Value} {ab_NoRing : Bool} {col_NoRing : Option Bool} {dd_NoRing : Option Addr} {k0_NoRing k1_NoRing k2_NoRing k3_NoRing k5_NoRing : Option Value}
    {C_KT : Addr} {dKT : Option Addr} {t1KT t2KT t3KT : Tok} {nKT : Nat} {sKT : Array (Option Value)}
    {od_l_cell an_l_cell : Option Addr} {sl_l_cell : Array (Option Value)} {oc_l_cell kV_l_cell dc_l_cell pm_l_cell cd_l_cell ct_l_cell : Value}
    {od_l_row an_l_row : Option Addr} {sl_l_row : Array (Option Value)} {oc_l_row kV_l_row dc_l_row pm_l_row cd_l_row ct_l_row : Value}
    {od_l_drawn an_l_drawn : Option Addr} {sl_l_drawn : Array (Option Value)} {oc_l_drawn kV_l_drawn dc_l_drawn pm_l_drawn cd_l_drawn ct_l_drawn : Value}
    {od_l_rings an_l_rings : Option Addr} {sl_l_rings : Array (Option Value)} {oc_l_rings kV_l_rings dc_l_rings pm_l_rings cd_l_rings ct_l_rings : Value}
    {od_l_text an_l_text : Option Addr} {sl_l_text : Array (Option Value)} {oc_l_text kV_l_text dc_l_text pm_l_text cd_l_text ct_l_text : Value}
    {od_l_sign an_l_sign : Option Addr} {sl_l_sign : Array (Option Value)} {oc_l_sign kV_l_sign dc_l_sign pm_l_sign cd_l_sign ct_l_sign : Value}
    {od_l_spoilt an_l_spoilt : Option Addr} {sl_l_spoilt : Array (Option Value)} {oc_l_spoilt kV_l_spoilt dc_l_spoilt pm_l_spoilt cd_l_spoilt ct_l_spoilt : Value}
    {od_l_name an_l_name : Option Addr} {sl_l_name : Array (Option Value)} {oc_l_name kV_l_name dc_l_name pm_l_name cd_l_name ct_l_name : Value}
    {od_l_is_name an_l_is_name : Option Addr} {sl_l_is_name : Array (Option Value)} {oc_l_is_name kV_l_is_name dc_l_is_name pm_l_is_name cd_l_is_name ct_l_is_name : Value}
    {od_l_is_known_kind an_l_is_known_kind : Option Addr} {sl_l_is_known_kind : Array (Option Value)} {oc_l_is_known_kind kV_l_is_known_kind dc_l_is_known_kind pm_l_is_known_kind cd_l_is_known_kind ct_l_is_known_kind : Value}
    {od_moves_of an_moves_of : Option Addr} {sl_moves_of : Array (Option Value)} {oc_moves_of kV_moves_of dc_moves_of pm_moves_of cd_moves_of ct_moves_of : Value}
    {oT_moves_of : Value} {dT_moves_of : Option Addr} {nT_moves_of : Nat} {sT_moves_of : Array (Option Value)}
    {od_rings_of an_rings_of : Option Addr} {sl_rings_of : Array (Option Value)} {oc_rings_of kV_rings_of dc_rings_of pm_rings_of cd_rings_of ct_rings_of : Value}
    {od_rings_text an_rings_text : Option Addr} {sl_rings_text : Array (Option Value)} {oc_rings_text kV_rings_text dc_rings_text pm_rings_text cd_rings_text ct_rings_text : Value}
    {od_is_name an_is_name : Option Addr} {sl_is_name : Array (Option Value)} {oc_is_name kV_is_name dc_is_name pm_is_name cd_is_name ct_is_name : Value}
    {od_Part_init an_Part_init : Option Addr} {sl_Part_init : Array (Option Value)} {oc_Part_init kV_Part_init dc_Part_init pm_Part_init cd_Part_init ct_Part_init : Value}
    {od_Part_eq an_Part_eq : Option Addr} {sl_Part_eq : Array (Option Value)} {oc_Part_eq kV_Part_eq dc_Part_eq pm_Part_eq cd_Part_eq ct_Part_eq : Value}
    {od_known_part an_known_part : Option Addr} {sl_known_part : Array (Option Value)} {oc_known_part kV_known_part dc_known_part pm_known_part cd_known_part ct_known_part : Value}
    {od_part_text an_part_text : Option Addr} {sl_part_text : Array (Option Value)} {oc_part_text kV_part_text dc_part_text pm_part_text cd_part_text ct_part_text : Value}
    {od_one_form an_one_form : Option Addr} {sl_one_form : Array (Option Value)} {oc_one_form kV_one_form dc_one_form pm_one_form cd_one_form ct_one_form : Value}
    {od_Word_init an_Word_init : Option Addr} {sl_Word_init : Array (Option Value)} {oc_Word_init kV_Word_init dc_Word_init pm_Word_init cd_Word_init ct_Word_init : Value}
    {od_Word_hole an_Word_hole : Option Addr} {sl_Word_hole : Array (Option Value)} {oc_Word_hole dc_Word_hole pm_Word_hole cd_Word_hole ct_Word_hole : Value}
    {mc_Word_hole : Value} {sp_Word_hole : Addr} {sr_Word_hole : List Value}
    {oT_Word_hole : Value} {dT_Word_hole : Option Addr} {nT_Word_hole : Nat} {sT_Word_hole : Array (Option Value)}
    {td_Word_hole : Tok}
    {od_Word_known an_Word_known : Option Addr} {sl_Word_known : Array (Option Value)} {oc_Word_known kV_Word_known dc_Word_known pm_Word_known cd_Word_known ct_Word_known : Value}
    {mc_Word_known : Value} {sp_Word_known : Addr} {sr_Word_known : List Value}
    {od_Word_holes an_Word_holes : Option Addr} {sl_Word_holes : Array (Option Value)} {oc_Word_holes kV_Word_holes dc_Word_holes pm_Word_holes cd_Word_holes ct_Word_holes : Value}
    {pq_Word_holes : List Value}
    {od_Word_kinds an_Word_kinds : Option Addr} {sl_Word_kinds : Array (Option Value)} {oc_Word_kinds kV_Word_kinds dc_Word_kinds pm_Word_kinds cd_Word_kinds ct_Word_kinds : Value}
    {pq_Word_kinds : List Value}
    {od_Word_named an_Word_named : Option Addr} {sl_Word_named : Array (Option Value)} {oc_Word_named kV_Word_named dc_Word_named pm_Word_named cd_Word_named ct_Word_named : Value}
    {pq_Word_named : List Value}
    {od_Word_eq an_Word_eq : Option Addr} {sl_Word_eq : Array (Option Value)} {oc_Word_eq kV_Word_eq dc_Word_eq pm_Word_eq cd_Word_eq ct_Word_eq : Value}
    {od_Word_len an_Word_len : Option Addr} {sl_Word_len : Array (Option Value)} {oc_Word_len kV_Word_len dc_Word_len pm_Word_len cd_Word_len ct_Word_len : Value}
    {od_Word_str an_Word_str : Option Addr} {sl_Word_str : Array (Option Value)} {oc_Word_str kV_Word_str dc_Word_str pm_Word_str cd_Word_str ct_Word_str : Value}
    {od_NoName_init an_NoName_init : Option Addr} {sl_NoName_init : Array (Option Value)} {oc_NoName_init kV_NoName_init dc_NoName_init pm_NoName_init cd_NoName_init ct_NoName_init : Value}
    {od_NoKind_init an_NoKind_init : Option Addr} {sl_NoKind_init : Array (Option Value)} {oc_NoKind_init kV_NoKind_init dc_NoKind_init pm_NoKind_init cd_NoKind_init ct_NoKind_init : Value}
    {od_NoMost_init an_NoMost_init : Option Addr} {sl_NoMost_init : Array (Option Value)} {oc_NoMost_init kV_NoMost_init dc_NoMost_init pm_NoMost_init cd_NoMost_init ct_NoMost_init : Value}
    {od_NoRing_init an_NoRing_init : Option Addr} {sl_NoRing_init : Array (Option Value)} {oc_NoRing_init kV_NoRing_init dc_NoRing_init pm_NoRing_init cd_NoRing_init ct_NoRing_init : Value}
    {od_l_no_hole an_l_no_hole : Option Addr} {sl_l_no_hole : Array (Option Value)} {oc_l_no_hole kV_l_no_hole dc_l_no_hole pm_l_no_hole cd_l_no_hole ct_l_no_hole : Value}
    {od_l_holds_one an_l_holds_one : Option Addr} {sl_l_holds_one : Array (Option Value)} {oc_l_holds_one kV_l_holds_one dc_l_holds_one pm_l_holds_one cd_l_holds_one ct_l_holds_one : Value}
    {od_l_no_known an_l_no_known : Option Addr} {sl_l_no_known : Array (Option Value)} {oc_l_no_known kV_l_no_known dc_l_no_known pm_l_no_known cd_l_no_known ct_l_no_known : Value}
    {od_l_known_right an_l_known_right : Option Addr} {sl_l_known_right : Array (Option Value)} {oc_l_known_right kV_l_known_right dc_l_known_right pm_l_known_right cd_l_known_right ct_l_known_right : Value}
    {od_law an_law : Option Addr} {sl_law : Array (Option Value)} {oc_law kV_law dc_law pm_law cd_law ct_law : Value}
    (g_Part : PySem.W.nsIn K mainGlobals "Part" = some (some (.ref C_Part)))
    (pg_Part : PySem.W.plainGet K C_Part Str.empty = true)
    (hd_Part : PySem.W.hasDictIn K C_Part = true)
    (po_Part : PySem.W.plainOver K C_Part = true)
    (sa_Part : PySem.W.findIn K (.ref C_Part) "__setattr__" = some (some (.builtin "object.__setattr__")))
    (mk_Part : PySem.W.makesIn K C_Part = true)
    (kc_Part : PySem.W.keepIn K (.ref C_Part) = true)
    (n_Part_name : PySem.W.findIn K (.ref C_Part) "name" = some none)
    (n_Part_back : PySem.W.findIn K (.ref C_Part) "back" = some none)
    (n_Part_moves : PySem.W.findIn K (.ref C_Part) "moves" = some none)
    (g_Word : PySem.W.nsIn K mainGlobals "Word" = some (some (.ref C_Word)))
    (pg_Word : PySem.W.plainGet K C_Word Str.empty = true)
    (hd_Word : PySem.W.hasDictIn K C_Word = true)
    (po_Word : PySem.W.plainOver K C_Word = true)
    (sa_Word : PySem.W.findIn K (.ref C_Word) "__setattr__" = some (some (.builtin "object.__setattr__")))
    (mk_Word : PySem.W.makesIn K C_Word = true)
    (kc_Word : PySem.W.keepIn K (.ref C_Word) = true)
    (n_Word_parts : PySem.W.findIn K (.ref C_Word) "parts" = some none)
    (n_Word__kinds : PySem.W.findIn K (.ref C_Word) "_kinds" = some none)
    (g_WireError : PySem.W.nsIn K mainGlobals "WireError" = some (some (.ref C_WireError)))
    (g_NoName : PySem.W.nsIn K mainGlobals "NoName" = some (some (.ref C_NoName)))
    (g_NoKind : PySem.W.nsIn K mainGlobals "NoKind" = some (some (.ref C_NoKind)))
    (g_NoMost : PySem.W.nsIn K mainGlobals "NoMost" = some (some (.ref C_NoMost)))
    (g_NoRing : PySem.W.nsIn K mainGlobals "NoRing" = some (some (.ref C_NoRing)))
    (x_WireError : K.lookup C_WireError = some (excClassObj nm_WireError qn_WireError C_WireError N_WireError bs_WireError [.type "ValueError", .type "Exception", .type "BaseException", .type "object"] true sn_WireError sub_WireError ab_WireError col_WireError dd_WireError k0_WireError k1_WireError k2_WireError k3_WireError k5_WireError "ValueError.__new__"))
    (x_NoName : K.lookup C_NoName = some (excClassObj nm_NoName qn_NoName C_NoName N_NoName bs_NoName [.ref C_WireError, .type "ValueError", .type "Exception", .type "BaseException", .type "object"] true sn_NoName sub_NoName ab_NoName col_NoName dd_NoName k0_NoName k1_NoName k2_NoName k3_NoName k5_NoName "ValueError.__new__"))
    (kc_NoName : PySem.W.keepIn K (.ref C_NoName) = true)
    (sa_NoName : PySem.W.findIn K (.ref C_NoName) "__setattr__" = some (some (.builtin "object.__setattr__")))
    (ga_NoName : PySem.W.findIn K (.ref C_NoName) "__getattribute__" = some (some (.builtin "BaseException.__getattribute__")))
    (gg_NoName : PySem.W.findIn K (.ref C_NoName) "__getattr__" = some none)
    (cl_NoName : PySem.W.findIn K (.ref C_NoName) "__class__" = some (some (.builtin "object.__class__")))
    (no_NoName : PySem.W.findIn K (.ref C_NoName) "name" = some none)
    (x_NoKind : K.lookup C_NoKind = some (excClassObj nm_NoKind qn_NoKind C_NoKind N_NoKind bs_NoKind [.ref C_WireError, .type "ValueError", .type "Exception", .type "BaseException", .type "object"] true sn_NoKind sub_NoKind ab_NoKind col_NoKind dd_NoKind k0_NoKind k1_NoKind k2_NoKind k3_NoKind k5_NoKind "ValueError.__new__"))
    (kc_NoKind : PySem.W.keepIn K (.ref C_NoKind) = true)
    (sa_NoKind : PySem.W.findIn K (.ref C_NoKind) "__setattr__" = some (some (.builtin "object.__setattr__")))
    (ga_NoKind : PySem.W.findIn K (.ref C_NoKind) "__getattribute__" = some (some (.builtin "BaseException.__getattribute__")))
    (gg_NoKind : PySem.W.findIn K (.ref C_NoKind) "__getattr__" = some none)
    (cl_NoKind : PySem.W.findIn K (.ref C_NoKind) "__class__" = some (some (.builtin "object.__class__")))
    (no_NoKind : PySem.W.findIn K (.ref C_NoKind) "kind" = some none)
    (x_NoMost : K.lookup C_NoMost = some (excClassObj nm_NoMost qn_NoMost C_NoMost N_NoMost bs_NoMost [.ref C_WireError, .type "ValueError", .type "Exception", .type "BaseException", .type "object"] true sn_NoMost sub_NoMost ab_NoMost col_NoMost dd_NoMost k0_NoMost k1_NoMost k2_NoMost k3_NoMost k5_NoMost "ValueError.__new__"))
    (kc_NoMost : PySem.W.keepIn K (.ref C_NoMost) = true)
    (sa_NoMost : PySem.W.findIn K (.ref C_NoMost) "__setattr__" = some (some (.builtin "object.__setattr__")))
    (ga_NoMost : PySem.W.findIn K (.ref C_NoMost) "__getattribute__" = some (some (.builtin "BaseException.__getattribute__")))
    (gg_NoMost : PySem.W.findIn K (.ref C_NoMost) "__getattr__" = some none)
    (cl_NoMost : PySem.W.findIn K (.ref C_NoMost) "__class__" = some (some (.builtin "object.__class__")))
    (no_NoMost : PySem.W.findIn K (.ref C_NoMost) "most" = some none)
    (x_NoRing : K.lookup C_NoRing = some (excClassObj nm_NoRing qn_NoRing C_NoRing N_NoRing bs_NoRing [.ref C_WireError, .type "ValueError", .type "Exception", .type "BaseException", .type "object"] true sn_NoRing sub_NoRing ab_NoRing col_NoRing dd_NoRing k0_NoRing k1_NoRing k2_NoRing k3_NoRing k5_NoRing "ValueError.__new__"))
    (kc_NoRing : PySem.W.keepIn K (.ref C_NoRing) = true)
    (sa_NoRing : PySem.W.findIn K (.ref C_NoRing) "__setattr__" = some (some (.builtin "object.__setattr__")))
    (ga_NoRing : PySem.W.findIn K (.ref C_NoRing) "__getattribute__" = some (some (.builtin "BaseException.__getattribute__")))
    (gg_NoRing : PySem.W.findIn K (.ref C_NoRing) "__getattr__" = some none)
    (cl_NoRing : PySem.W.findIn K (.ref C_NoRing) "__class__" = some (some (.builtin "object.__class__")))
    (no_NoRing : PySem.W.findIn K (.ref C_NoRing) "index" = some none)
    (clP : PySem.W.findIn K (.ref C_Part) "__class__" = some (some (.builtin "object.__class__")))
    (clW : PySem.W.findIn K (.ref C_Word) "__class__" = some (some (.builtin "object.__class__")))
    (hget : PySem.W.specialIn K (.builtin "object.__class__") "__get__" = some (some (.builtin "getset_descriptor.__get__")))
    (htk : PySem.W.takesIn K (.builtin "object.__class__") = some true)
    (hmP : PySem.W.mroIn K C_Part (.type "object") = some true)
    (hmW : PySem.W.mroIn K C_Word (.type "object") = some true)
    (neW : PySem.W.findIn K (.ref C_Word) "__ne__" = some (some (.builtin "object.__ne__")))
    (gKT : PySem.W.nsIn K mainGlobals "KINDS" = some (some (.ref C_KT)))
    (lKT : K.lookup C_KT = some ⟨.type "tuple", dKT, .seq #[.str "wire" t1KT, .str "swaps" t2KT, .str "mirror" t3KT] nKT, sKT⟩)
    (ne1 : C_NoName ≠ C_NoKind)
    (ne2 : C_NoName ≠ C_NoMost)
    (ne3 : C_NoKind ≠ C_NoMost)
    (ne4 : C_NoName ≠ C_WireError)
    (ne5 : C_NoKind ≠ C_WireError)
    (ne6 : C_NoMost ≠ C_WireError)
    (z_len : PySem.W.nsIn K mainGlobals "len" = some none)
    (z_range : PySem.W.nsIn K mainGlobals "range" = some none)
    (z_int : PySem.W.nsIn K mainGlobals "int" = some none)
    (z_list : PySem.W.nsIn K mainGlobals "list" = some none)
    (z_enumerate : PySem.W.nsIn K mainGlobals "enumerate" = some none)
    (z_dict : PySem.W.nsIn K mainGlobals "dict" = some none)
    (z_zip : PySem.W.nsIn K mainGlobals "zip" = some none)
    (z_set : PySem.W.nsIn K mainGlobals "set" = some none)
    (z_sorted : PySem.W.nsIn K mainGlobals "sorted" = some none)
    (z_all : PySem.W.nsIn K mainGlobals "all" = some none)
    (z_abs : PySem.W.nsIn K mainGlobals "abs" = some none)
    (z_isinstance : PySem.W.nsIn K mainGlobals "isinstance" = some none)
    (z_bool : PySem.W.nsIn K mainGlobals "bool" = some none)
    (z_str : PySem.W.nsIn K mainGlobals "str" = some none)
    (a_l_cell : PySem.W.nsIn K mainGlobals "_law_cell" = some (some (.ref f_l_cell)))
    (l_l_cell : K.lookup f_l_cell = some ⟨oc_l_cell, od_l_cell, .func (PySem.W.fnOf "_law_cell" "_law_cell" (defArgs s_l_cell) (defBody s_l_cell) (defScope s_l_cell) .none kV_l_cell dc_l_cell pm_l_cell an_l_cell cd_l_cell ct_l_cell), sl_l_cell⟩)
    (c_l_cell : PySem.W.codeIn K cd_l_cell "_law_cell" = true)
    (k_l_cell : PySem.W.keepIn K (.ref f_l_cell) = true)
    (a_l_row : PySem.W.nsIn K mainGlobals "_law_row" = some (some (.ref f_l_row)))
    (l_l_row : K.lookup f_l_row = some ⟨oc_l_row, od_l_row, .func (PySem.W.fnOf "_law_row" "_law_row" (defArgs s_l_row) (defBody s_l_row) (defScope s_l_row) .none kV_l_row dc_l_row pm_l_row an_l_row cd_l_row ct_l_row), sl_l_row⟩)
    (c_l_row : PySem.W.codeIn K cd_l_row "_law_row" = true)
    (k_l_row : PySem.W.keepIn K (.ref f_l_row) = true)
    (a_l_drawn : PySem.W.nsIn K mainGlobals "_law_drawn" = some (some (.ref f_l_drawn)))
    (l_l_drawn : K.lookup f_l_drawn = some ⟨oc_l_drawn, od_l_drawn, .func (PySem.W.fnOf "_law_drawn" "_law_drawn" (defArgs s_l_drawn) (defBody s_l_drawn) (defScope s_l_drawn) .none kV_l_drawn dc_l_drawn pm_l_drawn an_l_drawn cd_l_drawn ct_l_drawn), sl_l_drawn⟩)
    (c_l_drawn : PySem.W.codeIn K cd_l_drawn "_law_drawn" = true)
    (k_l_drawn : PySem.W.keepIn K (.ref f_l_drawn) = true)
    (a_l_rings : PySem.W.nsIn K mainGlobals "_law_rings" = some (some (.ref f_l_rings)))
    (l_l_rings : K.lookup f_l_rings = some ⟨oc_l_rings, od_l_rings, .func (PySem.W.fnOf "_law_rings" "_law_rings" (defArgs s_l_rings) (defBody s_l_rings) (defScope s_l_rings) .none kV_l_rings dc_l_rings pm_l_rings an_l_rings cd_l_rings ct_l_rings), sl_l_rings⟩)
    (c_l_rings : PySem.W.codeIn K cd_l_rings "_law_rings" = true)
    (k_l_rings : PySem.W.keepIn K (.ref f_l_rings) = true)
    (a_l_text : PySem.W.nsIn K mainGlobals "_law_text" = some (some (.ref f_l_text)))
    (l_l_text : K.lookup f_l_text = some ⟨oc_l_text, od_l_text, .func (PySem.W.fnOf "_law_text" "_law_text" (defArgs s_l_text) (defBody s_l_text) (defScope s_l_text) .none kV_l_text dc_l_text pm_l_text an_l_text cd_l_text ct_l_text), sl_l_text⟩)
    (c_l_text : PySem.W.codeIn K cd_l_text "_law_text" = true)
    (k_l_text : PySem.W.keepIn K (.ref f_l_text) = true)
    (a_l_sign : PySem.W.nsIn K mainGlobals "_law_sign" = some (some (.ref f_l_sign)))
    (l_l_sign : K.lookup f_l_sign = some ⟨oc_l_sign, od_l_sign, .func (PySem.W.fnOf "_law_sign" "_law_sign" (defArgs s_l_sign) (defBody s_l_sign) (defScope s_l_sign) .none kV_l_sign dc_l_sign pm_l_sign an_l_sign cd_l_sign ct_l_sign), sl_l_sign⟩)
    (c_l_sign : PySem.W.codeIn K cd_l_sign "_law_sign" = true)
    (k_l_sign : PySem.W.keepIn K (.ref f_l_sign) = true)
    (a_l_spoilt : PySem.W.nsIn K mainGlobals "_law_spoilt" = some (some (.ref f_l_spoilt)))
    (l_l_spoilt : K.lookup f_l_spoilt = some ⟨oc_l_spoilt, od_l_spoilt, .func (PySem.W.fnOf "_law_spoilt" "_law_spoilt" (defArgs s_l_spoilt) (defBody s_l_spoilt) (defScope s_l_spoilt) .none kV_l_spoilt dc_l_spoilt pm_l_spoilt an_l_spoilt cd_l_spoilt ct_l_spoilt), sl_l_spoilt⟩)
    (c_l_spoilt : PySem.W.codeIn K cd_l_spoilt "_law_spoilt" = true)
    (k_l_spoilt : PySem.W.keepIn K (.ref f_l_spoilt) = true)
    (a_l_name : PySem.W.nsIn K mainGlobals "_law_name" = some (some (.ref f_l_name)))
    (l_l_name : K.lookup f_l_name = some ⟨oc_l_name, od_l_name, .func (PySem.W.fnOf "_law_name" "_law_name" (defArgs s_l_name) (defBody s_l_name) (defScope s_l_name) .none kV_l_name dc_l_name pm_l_name an_l_name cd_l_name ct_l_name), sl_l_name⟩)
    (c_l_name : PySem.W.codeIn K cd_l_name "_law_name" = true)
    (k_l_name : PySem.W.keepIn K (.ref f_l_name) = true)
    (a_l_is_name : PySem.W.nsIn K mainGlobals "_law_is_name" = some (some (.ref f_l_is_name)))
    (l_l_is_name : K.lookup f_l_is_name = some ⟨oc_l_is_name, od_l_is_name, .func (PySem.W.fnOf "_law_is_name" "_law_is_name" (defArgs s_l_is_name) (defBody s_l_is_name) (defScope s_l_is_name) .none kV_l_is_name dc_l_is_name pm_l_is_name an_l_is_name cd_l_is_name ct_l_is_name), sl_l_is_name⟩)
    (c_l_is_name : PySem.W.codeIn K cd_l_is_name "_law_is_name" = true)
    (k_l_is_name : PySem.W.keepIn K (.ref f_l_is_name) = true)
    (a_l_is_known_kind : PySem.W.nsIn K mainGlobals "_law_is_known_kind" = some (some (.ref f_l_is_known_kind)))
    (l_l_is_known_kind : K.lookup f_l_is_known_kind = some ⟨oc_l_is_known_kind, od_l_is_known_kind, .func (PySem.W.fnOf "_law_is_known_kind" "_law_is_known_kind" (defArgs s_l_is_known_kind) (defBody s_l_is_known_kind) (defScope s_l_is_known_kind) .none kV_l_is_known_kind dc_l_is_known_kind pm_l_is_known_kind an_l_is_known_kind cd_l_is_known_kind ct_l_is_known_kind), sl_l_is_known_kind⟩)
    (c_l_is_known_kind : PySem.W.codeIn K cd_l_is_known_kind "_law_is_known_kind" = true)
    (k_l_is_known_kind : PySem.W.keepIn K (.ref f_l_is_known_kind) = true)
    (a_moves_of : PySem.W.nsIn K mainGlobals "moves_of" = some (some (.ref f_moves_of)))
    (l_moves_of : K.lookup f_moves_of = some ⟨oc_moves_of, od_moves_of, .func (PySem.W.fnOf "moves_of" "moves_of" (defArgs s_moves_of) (defBody s_moves_of) (defScope s_moves_of) (.ref T_moves_of) kV_moves_of dc_moves_of pm_moves_of an_moves_of cd_moves_of ct_moves_of), sl_moves_of⟩)
    (lT_moves_of : K.lookup T_moves_of = some ⟨oT_moves_of, dT_moves_of, .seq #[.none] nT_moves_of, sT_moves_of⟩)
    (c_moves_of : PySem.W.codeIn K cd_moves_of "moves_of" = true)
    (k_moves_of : PySem.W.keepIn K (.ref f_moves_of) = true)
    (a_rings_of : PySem.W.nsIn K mainGlobals "rings_of" = some (some (.ref f_rings_of)))
    (l_rings_of : K.lookup f_rings_of = some ⟨oc_rings_of, od_rings_of, .func (PySem.W.fnOf "rings_of" "rings_of" (defArgs s_rings_of) (defBody s_rings_of) (defScope s_rings_of) .none kV_rings_of dc_rings_of pm_rings_of an_rings_of cd_rings_of ct_rings_of), sl_rings_of⟩)
    (c_rings_of : PySem.W.codeIn K cd_rings_of "rings_of" = true)
    (k_rings_of : PySem.W.keepIn K (.ref f_rings_of) = true)
    (a_rings_text : PySem.W.nsIn K mainGlobals "rings_text" = some (some (.ref f_rings_text)))
    (l_rings_text : K.lookup f_rings_text = some ⟨oc_rings_text, od_rings_text, .func (PySem.W.fnOf "rings_text" "rings_text" (defArgs s_rings_text) (defBody s_rings_text) (defScope s_rings_text) .none kV_rings_text dc_rings_text pm_rings_text an_rings_text cd_rings_text ct_rings_text), sl_rings_text⟩)
    (c_rings_text : PySem.W.codeIn K cd_rings_text "rings_text" = true)
    (k_rings_text : PySem.W.keepIn K (.ref f_rings_text) = true)
    (a_is_name : PySem.W.nsIn K mainGlobals "is_name" = some (some (.ref f_is_name)))
    (l_is_name : K.lookup f_is_name = some ⟨oc_is_name, od_is_name, .func (PySem.W.fnOf "is_name" "is_name" (defArgs s_is_name) (defBody s_is_name) (defScope s_is_name) .none kV_is_name dc_is_name pm_is_name an_is_name cd_is_name ct_is_name), sl_is_name⟩)
    (c_is_name : PySem.W.codeIn K cd_is_name "is_name" = true)
    (k_is_name : PySem.W.keepIn K (.ref f_is_name) = true)
    (a_Part_init : PySem.W.findIn K (.ref C_Part) "__init__" = some (some (.ref f_Part_init)))
    (i_Part_init : PySem.W.isFn K (.ref f_Part_init) = true)
    (l_Part_init : K.lookup f_Part_init = some ⟨oc_Part_init, od_Part_init, .func (PySem.W.fnOf "__init__" "Part.__init__" (defArgs s_Part_init) (defBody s_Part_init) (defScope s_Part_init) .none kV_Part_init dc_Part_init pm_Part_init an_Part_init cd_Part_init ct_Part_init), sl_Part_init⟩)
    (c_Part_init : PySem.W.codeIn K cd_Part_init "Part.__init__" = true)
    (k_Part_init : PySem.W.keepIn K (.ref f_Part_init) = true)
    (a_Part_eq : PySem.W.findIn K (.ref C_Part) "__eq__" = some (some (.ref f_Part_eq)))
    (i_Part_eq : PySem.W.isFn K (.ref f_Part_eq) = true)
    (l_Part_eq : K.lookup f_Part_eq = some ⟨oc_Part_eq, od_Part_eq, .func (PySem.W.fnOf "__eq__" "Part.__eq__" (defArgs s_Part_eq) (defBody s_Part_eq) (defScope s_Part_eq) .none kV_Part_eq dc_Part_eq pm_Part_eq an_Part_eq cd_Part_eq ct_Part_eq), sl_Part_eq⟩)
    (c_Part_eq : PySem.W.codeIn K cd_Part_eq "Part.__eq__" = true)
    (k_Part_eq : PySem.W.keepIn K (.ref f_Part_eq) = true)
    (a_known_part : PySem.W.nsIn K mainGlobals "known_part" = some (some (.ref f_known_part)))
    (l_known_part : K.lookup f_known_part = some ⟨oc_known_part, od_known_part, .func (PySem.W.fnOf "known_part" "known_part" (defArgs s_known_part) (defBody s_known_part) (defScope s_known_part) .none kV_known_part dc_known_part pm_known_part an_known_part cd_known_part ct_known_part), sl_known_part⟩)
    (c_known_part : PySem.W.codeIn K cd_known_part "known_part" = true)
    (k_known_part : PySem.W.keepIn K (.ref f_known_part) = true)
    (a_part_text : PySem.W.nsIn K mainGlobals "part_text" = some (some (.ref f_part_text)))
    (l_part_text : K.lookup f_part_text = some ⟨oc_part_text, od_part_text, .func (PySem.W.fnOf "part_text" "part_text" (defArgs s_part_text) (defBody s_part_text) (defScope s_part_text) .none kV_part_text dc_part_text pm_part_text an_part_text cd_part_text ct_part_text), sl_part_text⟩)
    (c_part_text : PySem.W.codeIn K cd_part_text "part_text" = true)
    (k_part_text : PySem.W.keepIn K (.ref f_part_text) = true)
    (a_one_form : PySem.W.nsIn K mainGlobals "one_form" = some (some (.ref f_one_form)))
    (l_one_form : K.lookup f_one_form = some ⟨oc_one_form, od_one_form, .func (PySem.W.fnOf "one_form" "one_form" (defArgs s_one_form) (defBody s_one_form) (defScope s_one_form) .none kV_one_form dc_one_form pm_one_form an_one_form cd_one_form ct_one_form), sl_one_form⟩)
    (c_one_form : PySem.W.codeIn K cd_one_form "one_form" = true)
    (k_one_form : PySem.W.keepIn K (.ref f_one_form) = true)
    (a_Word_init : PySem.W.findIn K (.ref C_Word) "__init__" = some (some (.ref f_Word_init)))
    (i_Word_init : PySem.W.isFn K (.ref f_Word_init) = true)
    (l_Word_init : K.lookup f_Word_init = some ⟨oc_Word_init, od_Word_init, .func (PySem.W.fnOf "__init__" "Word.__init__" (defArgs s_Word_init) (defBody s_Word_init) (defScope s_Word_init) .none kV_Word_init dc_Word_init pm_Word_init an_Word_init cd_Word_init ct_Word_init), sl_Word_init⟩)
    (c_Word_init : PySem.W.codeIn K cd_Word_init "Word.__init__" = true)
    (k_Word_init : PySem.W.keepIn K (.ref f_Word_init) = true)
    (st_Word_hole : PySem.W.typeIn K (.ref C_Word) = some mc_Word_hole)
    (sd_Word_hole : PySem.W.readsIn K C_Word mc_Word_hole = true)
    (sg_Word_hole : PySem.W.specialIn K (.ref C_Word) "__getattribute__" = some (some (.builtin "type.__getattribute__")))
    (sf_Word_hole : PySem.W.findCls K (.ref C_Word) mc_Word_hole "hole" = some (.get (.builtin "staticmethod.__get__") (.ref sp_Word_hole) .none (.ref C_Word)))
    (sc_Word_hole : PySem.W.recIn K sp_Word_hole "staticmethod" = some (.ref f_Word_hole :: sr_Word_hole))
    (l_Word_hole : K.lookup f_Word_hole = some ⟨oc_Word_hole, od_Word_hole, .func (PySem.W.fnOf "hole" "Word.hole" (defArgs s_Word_hole) (defBody s_Word_hole) (defScope s_Word_hole) (.ref T_Word_hole) (.ref KD_Word_hole) dc_Word_hole pm_Word_hole an_Word_hole cd_Word_hole ct_Word_hole), sl_Word_hole⟩)
    (lT_Word_hole : K.lookup T_Word_hole = some ⟨oT_Word_hole, dT_Word_hole, .seq #[(.str "wire" td_Word_hole)] nT_Word_hole, sT_Word_hole⟩)
    (q_Word_hole_most : PySem.W.nsIn K KD_Word_hole "most" = some (some .none))
    (c_Word_hole : PySem.W.codeIn K cd_Word_hole "Word.hole" = true)
    (k_Word_hole : PySem.W.keepIn K (.ref f_Word_hole) = true)
    (st_Word_known : PySem.W.typeIn K (.ref C_Word) = some mc_Word_known)
    (sd_Word_known : PySem.W.readsIn K C_Word mc_Word_known = true)
    (sg_Word_known : PySem.W.specialIn K (.ref C_Word) "__getattribute__" = some (some (.builtin "type.__getattribute__")))
    (sf_Word_known : PySem.W.findCls K (.ref C_Word) mc_Word_known "known" = some (.get (.builtin "staticmethod.__get__") (.ref sp_Word_known) .none (.ref C_Word)))
    (sc_Word_known : PySem.W.recIn K sp_Word_known "staticmethod" = some (.ref f_Word_known :: sr_Word_known))
    (l_Word_known : K.lookup f_Word_known = some ⟨oc_Word_known, od_Word_known, .func (PySem.W.fnOf "known" "Word.known" (defArgs s_Word_known) (defBody s_Word_known) (defScope s_Word_known) .none kV_Word_known dc_Word_known pm_Word_known an_Word_known cd_Word_known ct_Word_known), sl_Word_known⟩)
    (c_Word_known : PySem.W.codeIn K cd_Word_known "Word.known" = true)
    (k_Word_known : PySem.W.keepIn K (.ref f_Word_known) = true)
    (pa_Word_holes : PySem.W.findIn K (.ref C_Word) "holes" = some (some (.ref pp_Word_holes)))
    (pb_Word_holes : PySem.W.specialIn K (.ref pp_Word_holes) "__get__" = some (some (.builtin "property.__get__")))
    (pt_Word_holes : PySem.W.takesIn K (.ref pp_Word_holes) = some true)
    (pr_Word_holes : PySem.W.recIn K pp_Word_holes "property" = some (.ref f_Word_holes :: pq_Word_holes))
    (l_Word_holes : K.lookup f_Word_holes = some ⟨oc_Word_holes, od_Word_holes, .func (PySem.W.fnOf "holes" "Word.holes" (defArgs s_Word_holes) (defBody s_Word_holes) (defScope s_Word_holes) .none kV_Word_holes dc_Word_holes pm_Word_holes an_Word_holes cd_Word_holes ct_Word_holes), sl_Word_holes⟩)
    (c_Word_holes : PySem.W.codeIn K cd_Word_holes "Word.holes" = true)
    (k_Word_holes : PySem.W.keepIn K (.ref f_Word_holes) = true)
    (pa_Word_kinds : PySem.W.findIn K (.ref C_Word) "kinds" = some (some (.ref pp_Word_kinds)))
    (pb_Word_kinds : PySem.W.specialIn K (.ref pp_Word_kinds) "__get__" = some (some (.builtin "property.__get__")))
    (pt_Word_kinds : PySem.W.takesIn K (.ref pp_Word_kinds) = some true)
    (pr_Word_kinds : PySem.W.recIn K pp_Word_kinds "property" = some (.ref f_Word_kinds :: pq_Word_kinds))
    (l_Word_kinds : K.lookup f_Word_kinds = some ⟨oc_Word_kinds, od_Word_kinds, .func (PySem.W.fnOf "kinds" "Word.kinds" (defArgs s_Word_kinds) (defBody s_Word_kinds) (defScope s_Word_kinds) .none kV_Word_kinds dc_Word_kinds pm_Word_kinds an_Word_kinds cd_Word_kinds ct_Word_kinds), sl_Word_kinds⟩)
    (c_Word_kinds : PySem.W.codeIn K cd_Word_kinds "Word.kinds" = true)
    (k_Word_kinds : PySem.W.keepIn K (.ref f_Word_kinds) = true)
    (pa_Word_named : PySem.W.findIn K (.ref C_Word) "named" = some (some (.ref pp_Word_named)))
    (pb_Word_named : PySem.W.specialIn K (.ref pp_Word_named) "__get__" = some (some (.builtin "property.__get__")))
    (pt_Word_named : PySem.W.takesIn K (.ref pp_Word_named) = some true)
    (pr_Word_named : PySem.W.recIn K pp_Word_named "property" = some (.ref f_Word_named :: pq_Word_named))
    (l_Word_named : K.lookup f_Word_named = some ⟨oc_Word_named, od_Word_named, .func (PySem.W.fnOf "named" "Word.named" (defArgs s_Word_named) (defBody s_Word_named) (defScope s_Word_named) .none kV_Word_named dc_Word_named pm_Word_named an_Word_named cd_Word_named ct_Word_named), sl_Word_named⟩)
    (c_Word_named : PySem.W.codeIn K cd_Word_named "Word.named" = true)
    (k_Word_named : PySem.W.keepIn K (.ref f_Word_named) = true)
    (a_Word_eq : PySem.W.findIn K (.ref C_Word) "__eq__" = some (some (.ref f_Word_eq)))
    (i_Word_eq : PySem.W.isFn K (.ref f_Word_eq) = true)
    (l_Word_eq : K.lookup f_Word_eq = some ⟨oc_Word_eq, od_Word_eq, .func (PySem.W.fnOf "__eq__" "Word.__eq__" (defArgs s_Word_eq) (defBody s_Word_eq) (defScope s_Word_eq) .none kV_Word_eq dc_Word_eq pm_Word_eq an_Word_eq cd_Word_eq ct_Word_eq), sl_Word_eq⟩)
    (c_Word_eq : PySem.W.codeIn K cd_Word_eq "Word.__eq__" = true)
    (k_Word_eq : PySem.W.keepIn K (.ref f_Word_eq) = true)
    (a_Word_len : PySem.W.findIn K (.ref C_Word) "__len__" = some (some (.ref f_Word_len)))
    (i_Word_len : PySem.W.isFn K (.ref f_Word_len) = true)
    (l_Word_len : K.lookup f_Word_len = some ⟨oc_Word_len, od_Word_len, .func (PySem.W.fnOf "__len__" "Word.__len__" (defArgs s_Word_len) (defBody s_Word_len) (defScope s_Word_len) .none kV_Word_len dc_Word_len pm_Word_len an_Word_len cd_Word_len ct_Word_len), sl_Word_len⟩)
    (c_Word_len : PySem.W.codeIn K cd_Word_len "Word.__len__" = true)
    (k_Word_len : PySem.W.keepIn K (.ref f_Word_len) = true)
    (a_Word_str : PySem.W.findIn K (.ref C_Word) "__str__" = some (some (.ref f_Word_str)))
    (i_Word_str : PySem.W.isFn K (.ref f_Word_str) = true)
    (l_Word_str : K.lookup f_Word_str = some ⟨oc_Word_str, od_Word_str, .func (PySem.W.fnOf "__str__" "Word.__str__" (defArgs s_Word_str) (defBody s_Word_str) (defScope s_Word_str) .none kV_Word_str dc_Word_str pm_Word_str an_Word_str cd_Word_str ct_Word_str), sl_Word_str⟩)
    (c_Word_str : PySem.W.codeIn K cd_Word_str "Word.__str__" = true)
    (k_Word_str : PySem.W.keepIn K (.ref f_Word_str) = true)
    (a_NoName_init : PySem.W.findIn K (.ref C_NoName) "__init__" = some (some (.ref f_NoName_init)))
    (i_NoName_init : PySem.W.typeIn K (.ref f_NoName_init) = some (.type "function"))
    (l_NoName_init : K.lookup f_NoName_init = some ⟨oc_NoName_init, od_NoName_init, .func (PySem.W.fnOf "__init__" "NoName.__init__" (defArgs s_NoName_init) (defBody s_NoName_init) (defScope s_NoName_init) .none kV_NoName_init dc_NoName_init pm_NoName_init an_NoName_init cd_NoName_init ct_NoName_init), sl_NoName_init⟩)
    (c_NoName_init : PySem.W.codeIn K cd_NoName_init "NoName.__init__" = true)
    (k_NoName_init : PySem.W.keepIn K (.ref f_NoName_init) = true)
    (a_NoKind_init : PySem.W.findIn K (.ref C_NoKind) "__init__" = some (some (.ref f_NoKind_init)))
    (i_NoKind_init : PySem.W.typeIn K (.ref f_NoKind_init) = some (.type "function"))
    (l_NoKind_init : K.lookup f_NoKind_init = some ⟨oc_NoKind_init, od_NoKind_init, .func (PySem.W.fnOf "__init__" "NoKind.__init__" (defArgs s_NoKind_init) (defBody s_NoKind_init) (defScope s_NoKind_init) .none kV_NoKind_init dc_NoKind_init pm_NoKind_init an_NoKind_init cd_NoKind_init ct_NoKind_init), sl_NoKind_init⟩)
    (c_NoKind_init : PySem.W.codeIn K cd_NoKind_init "NoKind.__init__" = true)
    (k_NoKind_init : PySem.W.keepIn K (.ref f_NoKind_init) = true)
    (a_NoMost_init : PySem.W.findIn K (.ref C_NoMost) "__init__" = some (some (.ref f_NoMost_init)))
    (i_NoMost_init : PySem.W.typeIn K (.ref f_NoMost_init) = some (.type "function"))
    (l_NoMost_init : K.lookup f_NoMost_init = some ⟨oc_NoMost_init, od_NoMost_init, .func (PySem.W.fnOf "__init__" "NoMost.__init__" (defArgs s_NoMost_init) (defBody s_NoMost_init) (defScope s_NoMost_init) .none kV_NoMost_init dc_NoMost_init pm_NoMost_init an_NoMost_init cd_NoMost_init ct_NoMost_init), sl_NoMost_init⟩)
    (c_NoMost_init : PySem.W.codeIn K cd_NoMost_init "NoMost.__init__" = true)
    (k_NoMost_init : PySem.W.keepIn K (.ref f_NoMost_init) = true)
    (a_NoRing_init : PySem.W.findIn K (.ref C_NoRing) "__init__" = some (some (.ref f_NoRing_init)))
    (i_NoRing_init : PySem.W.typeIn K (.ref f_NoRing_init) = some (.type "function"))
    (l_NoRing_init : K.lookup f_NoRing_init = some ⟨oc_NoRing_init, od_NoRing_init, .func (PySem.W.fnOf "__init__" "NoRing.__init__" (defArgs s_NoRing_init) (defBody s_NoRing_init) (defScope s_NoRing_init) .none kV_NoRing_init dc_NoRing_init pm_NoRing_init an_NoRing_init cd_NoRing_init ct_NoRing_init), sl_NoRing_init⟩)
    (c_NoRing_init : PySem.W.codeIn K cd_NoRing_init "NoRing.__init__" = true)
    (k_NoRing_init : PySem.W.keepIn K (.ref f_NoRing_init) = true)
    (a_l_no_hole : PySem.W.nsIn K mainGlobals "_law_no_hole" = some (some (.ref f_l_no_hole)))
    (l_l_no_hole : K.lookup f_l_no_hole = some ⟨oc_l_no_hole, od_l_no_hole, .func (PySem.W.fnOf "_law_no_hole" "_law_no_hole" (defArgs s_l_no_hole) (defBody s_l_no_hole) (defScope s_l_no_hole) .none kV_l_no_hole dc_l_no_hole pm_l_no_hole an_l_no_hole cd_l_no_hole ct_l_no_hole), sl_l_no_hole⟩)
    (c_l_no_hole : PySem.W.codeIn K cd_l_no_hole "_law_no_hole" = true)
    (k_l_no_hole : PySem.W.keepIn K (.ref f_l_no_hole) = true)
    (a_l_holds_one : PySem.W.nsIn K mainGlobals "_law_holds_one" = some (some (.ref f_l_holds_one)))
    (l_l_holds_one : K.lookup f_l_holds_one = some ⟨oc_l_holds_one, od_l_holds_one, .func (PySem.W.fnOf "_law_holds_one" "_law_holds_one" (defArgs s_l_holds_one) (defBody s_l_holds_one) (defScope s_l_holds_one) .none kV_l_holds_one dc_l_holds_one pm_l_holds_one an_l_holds_one cd_l_holds_one ct_l_holds_one), sl_l_holds_one⟩)
    (c_l_holds_one : PySem.W.codeIn K cd_l_holds_one "_law_holds_one" = true)
    (k_l_holds_one : PySem.W.keepIn K (.ref f_l_holds_one) = true)
    (a_l_no_known : PySem.W.nsIn K mainGlobals "_law_no_known" = some (some (.ref f_l_no_known)))
    (l_l_no_known : K.lookup f_l_no_known = some ⟨oc_l_no_known, od_l_no_known, .func (PySem.W.fnOf "_law_no_known" "_law_no_known" (defArgs s_l_no_known) (defBody s_l_no_known) (defScope s_l_no_known) .none kV_l_no_known dc_l_no_known pm_l_no_known an_l_no_known cd_l_no_known ct_l_no_known), sl_l_no_known⟩)
    (c_l_no_known : PySem.W.codeIn K cd_l_no_known "_law_no_known" = true)
    (k_l_no_known : PySem.W.keepIn K (.ref f_l_no_known) = true)
    (a_l_known_right : PySem.W.nsIn K mainGlobals "_law_known_right" = some (some (.ref f_l_known_right)))
    (l_l_known_right : K.lookup f_l_known_right = some ⟨oc_l_known_right, od_l_known_right, .func (PySem.W.fnOf "_law_known_right" "_law_known_right" (defArgs s_l_known_right) (defBody s_l_known_right) (defScope s_l_known_right) .none kV_l_known_right dc_l_known_right pm_l_known_right an_l_known_right cd_l_known_right ct_l_known_right), sl_l_known_right⟩)
    (c_l_known_right : PySem.W.codeIn K cd_l_known_right "_law_known_right" = true)
    (k_l_known_right : PySem.W.keepIn K (.ref f_l_known_right) = true)
    (a_law : PySem.W.nsIn K mainGlobals "law" = some (some (.ref f_law)))
    (l_law : K.lookup f_law = some ⟨oc_law, od_law, .func (PySem.W.fnOf "law" "law" (defArgs s_law) (defBody s_law) (defScope s_law) .none kV_law dc_law pm_law an_law cd_law ct_law), sl_law⟩)
    (c_law : PySem.W.codeIn K cd_law "law" = true)
    (k_law : PySem.W.keepIn K (.ref f_law) = true)
    : ∃ fd : FuncData, (∀ (s : Shared) (v : Value), BindsTo s fd ⟨[v], []⟩ [("_law_script", v)]) ∧ ∀ base : Heap, K.In base → base.Ns mainGlobals mg → FnOk l.prog w K mg base CX0 10 fa fd ["_law_script"] (spLaw K) := by
  have e := hfa.symm.trans (PySem.W.mg_of X G a_law)
  cases e
  have F_l_cell := fun_mk (st := s_l_cell) l_l_cell c_l_cell k_l_cell
  have b_l_cell := F_l_cell.binds (ps := ["_law_script", "_law_k"]) fun _ _ _ _ _ _ us hl => match us, hl with | [_, _], _ => rfl
  have F_l_row := fun_mk (st := s_l_row) l_l_row c_l_row k_l_row
  have b_l_row := F_l_row.binds (ps := ["_law_cell_here", "_law_sizes"]) fun _ _ _ _ _ _ us hl => match us, hl with | [_, _], _ => rfl
  have F_l_drawn := fun_mk (st := s_l_drawn) l_l_drawn c_l_drawn k_l_drawn
  have b_l_drawn := F_l_drawn.binds (ps := ["_law_cell_here", "_law_n"]) fun _ _ _ _ _ _ us hl => match us, hl with | [_, _], _ => rfl
  have F_l_rings := fun_mk (st := s_l_rings) l_l_rings c_l_rings k_l_rings
  have b_l_rings := F_l_rings.binds (ps := ["_law_images"]) fun _ _ _ _ _ _ us hl => match us, hl with | [_], _ => rfl
  have F_l_text := fun_mk (st := s_l_text) l_l_text c_l_text k_l_text
  have b_l_text := F_l_text.binds (ps := ["_law_rings_here"]) fun _ _ _ _ _ _ us hl => match us, hl with | [_], _ => rfl
  have F_l_sign := fun_mk (st := s_l_sign) l_l_sign c_l_sign k_l_sign
  have b_l_sign := F_l_sign.binds (ps := ["_law_k"]) fun _ _ _ _ _ _ us hl => match us, hl with | [_], _ => rfl
  have F_l_spoilt := fun_mk (st := s_l_spoilt) l_l_spoilt c_l_spoilt k_l_spoilt
  have b_l_spoilt := F_l_spoilt.binds (ps := ["_law_text_here", "_law_kind_here", "_law_place", "_law_k"]) fun _ _ _ _ _ _ us hl => match us, hl with | [_, _, _, _], _ => rfl
  have F_l_name := fun_mk (st := s_l_name) l_l_name c_l_name k_l_name
  have b_l_name := F_l_name.binds (ps := ["_law_draw"]) fun _ _ _ _ _ _ us hl => match us, hl with | [_], _ => rfl
  have F_l_is_name := fun_mk (st := s_l_is_name) l_l_is_name c_l_is_name k_l_is_name
  have b_l_is_name := F_l_is_name.binds (ps := ["_law_text_here"]) fun _ _ _ _ _ _ us hl => match us, hl with | [_], _ => rfl
  have F_l_is_known_kind := fun_mk (st := s_l_is_known_kind) l_l_is_known_kind c_l_is_known_kind k_l_is_known_kind
  have b_l_is_known_kind := F_l_is_known_kind.binds (ps := ["_law_text_here"]) fun _ _ _ _ _ _ us hl => match us, hl with | [_], _ => rfl
  have F_moves_of : FunD K "moves_of" "moves_of" (defArgs s_moves_of) (defBody s_moves_of) (defScope s_moves_of) [.non] [] f_moves_of _ := ⟨⟨_, _, _, _, _, _, _, _, _, _, rfl, l_moves_of, c_moves_of, .inr ⟨by simp, _, _, [.none], _, rfl, lT_moves_of, rfl, .cons rfl .nil⟩, .inl rfl⟩, k_moves_of⟩
  obtain ⟨ds_moves_of, vd_moves_of, b_moves_of⟩ := F_moves_of.binds1 (ps := ["rings", "size"]) 2 1 (by simp) rfl fun _ _ _ _ _ _ _ us its h1 h2 => match us, its, h1, h2 with | [_, _], [_], _, _ => ⟨_, rfl, rfl⟩
  have F_rings_of := fun_mk (st := s_rings_of) l_rings_of c_rings_of k_rings_of
  have b_rings_of := F_rings_of.binds (ps := ["moves"]) fun _ _ _ _ _ _ us hl => match us, hl with | [_], _ => rfl
  have F_rings_text := fun_mk (st := s_rings_text) l_rings_text c_rings_text k_rings_text
  have b_rings_text := F_rings_text.binds (ps := ["rings"]) fun _ _ _ _ _ _ us hl => match us, hl with | [_], _ => rfl
  have F_is_name := fun_mk (st := s_is_name) l_is_name c_is_name k_is_name
  have b_is_name := F_is_name.binds (ps := ["text"]) fun _ _ _ _ _ _ us hl => match us, hl with | [_], _ => rfl
  have F_Part_init := fun_mk (st := s_Part_init) l_Part_init c_Part_init k_Part_init
  have b_Part_init := F_Part_init.binds (ps := ["self", "name", "back", "moves"]) fun _ _ _ _ _ _ us hl => match us, hl with | [_, _, _, _], _ => rfl
  have F_Part_eq := fun_mk (st := s_Part_eq) l_Part_eq c_Part_eq k_Part_eq
  have b_Part_eq := F_Part_eq.binds (ps := ["self", "other"]) fun _ _ _ _ _ _ us hl => match us, hl with | [_, _], _ => rfl
  have F_known_part := fun_mk (st := s_known_part) l_known_part c_known_part k_known_part
  have b_known_part := F_known_part.binds (ps := ["moves"]) fun _ _ _ _ _ _ us hl => match us, hl with | [_], _ => rfl
  have F_part_text := fun_mk (st := s_part_text) l_part_text c_part_text k_part_text
  have b_part_text := F_part_text.binds (ps := ["part"]) fun _ _ _ _ _ _ us hl => match us, hl with | [_], _ => rfl
  have F_one_form := fun_mk (st := s_one_form) l_one_form c_one_form k_one_form
  have b_one_form := F_one_form.binds (ps := ["parts", "kinds"]) fun _ _ _ _ _ _ us hl => match us, hl with | [_, _], _ => rfl
  have F_Word_init := fun_mk (st := s_Word_init) l_Word_init c_Word_init k_Word_init
  have b_Word_init := F_Word_init.binds (ps := ["self", "parts", "kinds"]) fun _ _ _ _ _ _ us hl => match us, hl with | [_, _, _], _ => rfl
  have F_Word_hole : FunD K "hole" "Word.hole" (defArgs s_Word_hole) (defBody s_Word_hole) (defScope s_Word_hole) [.str "wire"] [("most", .non)] f_Word_hole _ := ⟨⟨_, _, _, _, _, _, _, _, _, _, rfl, l_Word_hole, c_Word_hole, .inr ⟨by simp, _, _, [(.str "wire" td_Word_hole)], _, rfl, lT_Word_hole, rfl, .cons ⟨_, rfl⟩ .nil⟩, .inr ⟨_, rfl, fun q hq => by rw [List.mem_singleton.mp hq]; exact ⟨_, q_Word_hole_most, rfl⟩⟩⟩, k_Word_hole⟩
  have F_Word_known := fun_mk (st := s_Word_known) l_Word_known c_Word_known k_Word_known
  have b_Word_known := F_Word_known.binds (ps := ["rings"]) fun _ _ _ _ _ _ us hl => match us, hl with | [_], _ => rfl
  have F_Word_holes := fun_mk (st := s_Word_holes) l_Word_holes c_Word_holes k_Word_holes
  have b_Word_holes := F_Word_holes.binds (ps := ["self"]) fun _ _ _ _ _ _ us hl => match us, hl with | [_], _ => rfl
  have F_Word_kinds := fun_mk (st := s_Word_kinds) l_Word_kinds c_Word_kinds k_Word_kinds
  have b_Word_kinds := F_Word_kinds.binds (ps := ["self"]) fun _ _ _ _ _ _ us hl => match us, hl with | [_], _ => rfl
  have F_Word_named := fun_mk (st := s_Word_named) l_Word_named c_Word_named k_Word_named
  have b_Word_named := F_Word_named.binds (ps := ["self"]) fun _ _ _ _ _ _ us hl => match us, hl with | [_], _ => rfl
  have F_Word_eq := fun_mk (st := s_Word_eq) l_Word_eq c_Word_eq k_Word_eq
  have b_Word_eq := F_Word_eq.binds (ps := ["self", "other"]) fun _ _ _ _ _ _ us hl => match us, hl with | [_, _], _ => rfl
  have F_Word_len := fun_mk (st := s_Word_len) l_Word_len c_Word_len k_Word_len
  have b_Word_len := F_Word_len.binds (ps := ["self"]) fun _ _ _ _ _ _ us hl => match us, hl with | [_], _ => rfl
  have F_Word_str := fun_mk (st := s_Word_str) l_Word_str c_Word_str k_Word_str
  have b_Word_str := F_Word_str.binds (ps := ["self"]) fun _ _ _ _ _ _ us hl => match us, hl with | [_], _ => rfl
  have F_NoName_init := fun_mk (st := s_NoName_init) l_NoName_init c_NoName_init k_NoName_init
  have b_NoName_init := F_NoName_init.binds (ps := ["self", "name"]) fun _ _ _ _ _ _ us hl => match us, hl with | [_, _], _ => rfl
  have F_NoKind_init := fun_mk (st := s_NoKind_init) l_NoKind_init c_NoKind_init k_NoKind_init
  have b_NoKind_init := F_NoKind_init.binds (ps := ["self", "kind"]) fun _ _ _ _ _ _ us hl => match us, hl with | [_, _], _ => rfl
  have F_NoMost_init := fun_mk (st := s_NoMost_init) l_NoMost_init c_NoMost_init k_NoMost_init
  have b_NoMost_init := F_NoMost_init.binds (ps := ["self", "most"]) fun _ _ _ _ _ _ us hl => match us, hl with | [_, _], _ => rfl
  have F_NoRing_init := fun_mk (st := s_NoRing_init) l_NoRing_init c_NoRing_init k_NoRing_init
  have b_NoRing_init := F_NoRing_init.binds (ps := ["self", "index"]) fun _ _ _ _ _ _ us hl => match us, hl with | [_, _], _ => rfl
  have F_l_no_hole := fun_mk (st := s_l_no_hole) l_l_no_hole c_l_no_hole k_l_no_hole
  have b_l_no_hole := F_l_no_hole.binds (ps := ["_law_name_here", "_law_kind_here", "_law_bound"]) fun _ _ _ _ _ _ us hl => match us, hl with | [_, _, _], _ => rfl
  have F_l_holds_one := fun_mk (st := s_l_holds_one) l_l_holds_one c_l_holds_one k_l_holds_one
  have b_l_holds_one := F_l_holds_one.binds (ps := ["_law_name_here", "_law_kind_here", "_law_bound"]) fun _ _ _ _ _ _ us hl => match us, hl with | [_, _, _], _ => rfl
  have F_l_no_known := fun_mk (st := s_l_no_known) l_l_no_known c_l_no_known k_l_no_known
  have b_l_no_known := F_l_no_known.binds (ps := ["_law_rings_here"]) fun _ _ _ _ _ _ us hl => match us, hl with | [_], _ => rfl
  have F_l_known_right := fun_mk (st := s_l_known_right) l_l_known_right c_l_known_right k_l_known_right
  have b_l_known_right := F_l_known_right.binds (ps := ["_law_rings_here", "_law_row_here"]) fun _ _ _ _ _ _ us hl => match us, hl with | [_, _], _ => rfl
  have F_law := fun_mk (st := s_law) l_law c_law k_law
  refine ⟨PySem.W.fnOf "law" "law" (defArgs s_law) (defBody s_law) (defScope s_law) .none kV_law dc_law pm_law an_law cd_law ct_law, fun s v => .of_eq rfl, fun base hb1 hb2 => ?_⟩
  have N := fun {x : Str} (z : PySem.W.nsIn K mainGlobals x = some none) => PySem.W.mg_none_of X G z
  have B : Blt mg := ⟨N z_len, N z_range, N z_int, N z_list, N z_enumerate, N z_dict, N z_zip, N z_set, N z_sorted, N z_all, N z_abs, N z_isinstance, N z_bool⟩
  have clsP : Cls K C_Part := ⟨pg_Part, hd_Part, po_Part, sa_Part⟩
  have clsW : Cls K C_Word := ⟨pg_Word, hd_Word, po_Word, sa_Word⟩
  have WP : PTxt K C_Part := ⟨clsP, n_Part_name, n_Part_back, n_Part_moves⟩
  have W : WdTxt K C_Word := ⟨clsW, n_Word_parts, n_Word__kinds⟩
  have IP : IsTxt K C_Part := ⟨clsP, clP, hget, htk, hmP⟩
  have IW : IsTxt K C_Word := ⟨clsW, clW, hget, htk, hmW⟩
  have g_P := PySem.W.mg_of X G g_Part
  have g_W := PySem.W.mg_of X G g_Word
  have hKT : ∀ H : Hp, SqT K H C_KT [.str "wire", .str "swaps", .str "mirror"] := fun H => .inr ⟨_, _, _, lKT, rfl, rfl, by show 3 ≤ sizeLine; decide, .cons ⟨_, rfl⟩ (.cons ⟨_, rfl⟩ (.cons ⟨_, rfl⟩ .nil))⟩
  have X_NoName : ErrAt K C_NoName C_WireError := ⟨_, _, _, _, _, _, _, _, _, _, _, _, _, _, x_NoName⟩
  have E_NoName : ErrC K C_NoName := X_NoName.errC sa_NoName ga_NoName gg_NoName cl_NoName kc_NoName hget htk
  have G_NoName := PySem.W.mg_of X G g_NoName
  have D_NoName : ErrOk l.prog w K mg base CX0 1 C_NoName "NoName" "name" "name" := ⟨E_NoName, G_NoName, _, _, a_NoName_init, i_NoName_init, b_NoName_init, ok_NoName_init F_NoName_init E_NoName no_NoName⟩
  have X_NoKind : ErrAt K C_NoKind C_WireError := ⟨_, _, _, _, _, _, _, _, _, _, _, _, _, _, x_NoKind⟩
  have E_NoKind : ErrC K C_NoKind := X_NoKind.errC sa_NoKind ga_NoKind gg_NoKind cl_NoKind kc_NoKind hget htk
  have G_NoKind := PySem.W.mg_of X G g_NoKind
  have D_NoKind : ErrOk l.prog w K mg base CX0 1 C_NoKind "NoKind" "kind" "kind" := ⟨E_NoKind, G_NoKind, _, _, a_NoKind_init, i_NoKind_init, b_NoKind_init, ok_NoKind_init F_NoKind_init E_NoKind no_NoKind⟩
  have X_NoMost : ErrAt K C_NoMost C_WireError := ⟨_, _, _, _, _, _, _, _, _, _, _, _, _, _, x_NoMost⟩
  have E_NoMost : ErrC K C_NoMost := X_NoMost.errC sa_NoMost ga_NoMost gg_NoMost cl_NoMost kc_NoMost hget htk
  have G_NoMost := PySem.W.mg_of X G g_NoMost
  have D_NoMost : ErrOk l.prog w K mg base CX0 1 C_NoMost "NoMost" "most" "most" := ⟨E_NoMost, G_NoMost, _, _, a_NoMost_init, i_NoMost_init, b_NoMost_init, ok_NoMost_init F_NoMost_init E_NoMost no_NoMost⟩
  have X_NoRing : ErrAt K C_NoRing C_WireError := ⟨_, _, _, _, _, _, _, _, _, _, _, _, _, _, x_NoRing⟩
  have E_NoRing : ErrC K C_NoRing := X_NoRing.errC sa_NoRing ga_NoRing gg_NoRing cl_NoRing kc_NoRing hget htk
  have G_NoRing := PySem.W.mg_of X G g_NoRing
  have D_NoRing : ErrOk l.prog w K mg base CX0 1 C_NoRing "NoRing" "index" "index" := ⟨E_NoRing, G_NoRing, _, _, a_NoRing_init, i_NoRing_init, b_NoRing_init, ok_NoRing_init F_NoRing_init E_NoRing no_NoRing⟩
  have D_l_cell : DefOk l.prog w K mg base CX0 1 "_law_cell" ["_law_script", "_law_k"] [] (spCell K) := ⟨_, _, [], PySem.W.mg_of X G a_l_cell, k_l_cell, b_l_cell, .nil, ok_cell F_l_cell B⟩
  have D_l_row : DefOk l.prog w K mg base CX0 1 "_law_row" ["_law_cell_here", "_law_sizes"] [] (spRow K) := ⟨_, _, [], PySem.W.mg_of X G a_l_row, k_l_row, b_l_row, .nil, ok_row F_l_row B⟩
  have D_l_drawn : DefOk l.prog w K mg base CX0 2 "_law_drawn" ["_law_cell_here", "_law_n"] [] spDrawn := ⟨_, _, [], PySem.W.mg_of X G a_l_drawn, k_l_drawn, b_l_drawn, .nil, ok_drawn F_l_drawn B D_l_row⟩
  have D_l_rings : DefOk l.prog w K mg base CX0 1 "_law_rings" ["_law_images"] [] (spRings K) := ⟨_, _, [], PySem.W.mg_of X G a_l_rings, k_l_rings, b_l_rings, .nil, ok_l_rings F_l_rings B⟩
  have D_l_text : DefOk l.prog w K mg base CX0 1 "_law_text" ["_law_rings_here"] [] (spText K) := ⟨_, _, [], PySem.W.mg_of X G a_l_text, k_l_text, b_l_text, .nil, ok_l_text F_l_text B (N z_str)⟩
  have D_l_sign : DefOk l.prog w K mg base CX0 1 "_law_sign" ["_law_k"] [] spSign := ⟨_, _, [], PySem.W.mg_of X G a_l_sign, k_l_sign, b_l_sign, .nil, ok_l_sign F_l_sign⟩
  have D_l_spoilt : DefOk l.prog w K mg base CX0 2 "_law_spoilt" ["_law_text_here", "_law_kind_here", "_law_place", "_law_k"] [] spSpoilt := ⟨_, _, [], PySem.W.mg_of X G a_l_spoilt, k_l_spoilt, b_l_spoilt, .nil, ok_l_spoilt F_l_spoilt B D_l_sign⟩
  have D_l_name : DefOk l.prog w K mg base CX0 1 "_law_name" ["_law_draw"] [] spName := ⟨_, _, [], PySem.W.mg_of X G a_l_name, k_l_name, b_l_name, .nil, ok_l_name F_l_name B⟩
  have D_l_is_name : DefOk l.prog w K mg base CX0 1 "_law_is_name" ["_law_text_here"] [] spIsName := ⟨_, _, [], PySem.W.mg_of X G a_l_is_name, k_l_is_name, b_l_is_name, .nil, ok_l_is_name F_l_is_name B⟩
  have D_l_is_known_kind : DefOk l.prog w K mg base CX0 1 "_law_is_known_kind" ["_law_text_here"] [] spIsKind := ⟨_, _, [], PySem.W.mg_of X G a_l_is_known_kind, k_l_is_known_kind, b_l_is_known_kind, .nil, ok_l_is_known_kind F_l_is_known_kind⟩
  obtain ⟨ds1, vd1, b1⟩ := F_moves_of.binds1 (ps := ["rings", "size"]) 1 0 (by simp) rfl fun _ _ _ _ _ _ _ us its h1 h2 => match us, its, h1, h2 with | [_], [_], _, _ => ⟨_, rfl, rfl⟩
  have D_moves_of1 : DefOk l.prog w K mg base CX0 1 "moves_of" ["rings", "size"] [.non] (spMoves K) := ⟨_, _, ds1, PySem.W.mg_of X G a_moves_of, k_moves_of, b1, vd1, ok_moves_of F_moves_of B⟩
  have D_moves_of1X : DefOk l.prog w K mg base (L2.CX l.prog w) 3 "moves_of" ["rings", "size"] [.non] (spMovesX K C_NoRing) := ⟨_, _, ds1, PySem.W.mg_of X G a_moves_of, k_moves_of, b1, vd1, ok_moves_ofX F_moves_of B D_NoRing⟩
  have D_rings_of : DefOk l.prog w K mg base CX0 1 "rings_of" ["moves"] [] spRingsOf := ⟨_, _, [], PySem.W.mg_of X G a_rings_of, k_rings_of, b_rings_of, .nil, ok_rings_of F_rings_of B⟩
  have D_rings_text : DefOk l.prog w K mg base CX0 1 "rings_text" ["rings"] [] (spText K) := ⟨_, _, [], PySem.W.mg_of X G a_rings_text, k_rings_text, b_rings_text, .nil, ok_rings_text F_rings_text B (N z_str)⟩
  have D_is_name : DefOk l.prog w K mg base CX0 1 "is_name" ["text"] [] spIsName := ⟨_, _, [], PySem.W.mg_of X G a_is_name, k_is_name, b_is_name, .nil, ok_is_name F_is_name B⟩
  have M_Part : MakeOk l.prog w K mg base CX0 1 C_Part "Part" ["self", "name", "back", "moves"] [] (spPart C_Part) := ⟨g_P, _, _, [], ⟨mk_Part, a_Part_init, i_Part_init, kc_Part⟩, b_Part_init, .nil, ok_Part_init F_Part_init WP⟩
  have D_known_part : DefOk l.prog w K mg base CX0 3 "known_part" ["moves"] [] (spKnownPart C_Part) := ⟨_, _, [], PySem.W.mg_of X G a_known_part, k_known_part, b_known_part, .nil, ok_known_part F_known_part M_Part⟩
  have D_part_text : DefOk l.prog w K mg base CX0 2 "part_text" ["part"] [] (spPartT C_Part) := ⟨_, _, [], PySem.W.mg_of X G a_part_text, k_part_text, b_part_text, .nil, ok_part_text F_part_text WP D_rings_of D_rings_text⟩
  have D_one_formH : DefOk l.prog w K mg base CX0 3 "one_form" ["parts", "kinds"] [] (spOneH K C_Part) := ⟨_, _, [], PySem.W.mg_of X G a_one_form, k_one_form, b_one_form, .nil, ok_one_formH F_one_form WP M_Part⟩
  have D_one_form1 : DefOk l.prog w K mg base CX0 3 "one_form" ["parts", "kinds"] [] (spOne1 K C_Part) := ⟨_, _, [], PySem.W.mg_of X G a_one_form, k_one_form, b_one_form, .nil, ok_one_form1 F_one_form WP M_Part⟩
  have M_WordH : MakeOk l.prog w K mg base CX0 4 C_Word "Word" ["self", "parts", "kinds"] [] (spWdH K C_Part C_Word) := ⟨g_W, _, _, [], ⟨mk_Word, a_Word_init, i_Word_init, kc_Word⟩, b_Word_init, .nil, ok_Word_initH F_Word_init B W WP D_one_formH⟩
  have M_WordK : MakeOk l.prog w K mg base CX0 4 C_Word "Word" ["self", "parts", "kinds"] [] (spWdK K C_Part C_Word) := ⟨g_W, _, _, [], ⟨mk_Word, a_Word_init, i_Word_init, kc_Word⟩, b_Word_init, .nil, ok_Word_initK F_Word_init B W WP D_one_form1⟩
  have D_Part_eq : MethOk l.prog w K mg base CX0 1 C_Part "__eq__" ["self", "other"] [] (L2.spEq (SameP C_Part)) := ⟨_, _, [], ⟨a_Part_eq, i_Part_eq, k_Part_eq⟩, b_Part_eq, .nil, ok_Part_eq F_Part_eq B g_P IP WP⟩
  have D_Word_eq : MethOk l.prog w K mg base CX0 4 C_Word "__eq__" ["self", "other"] [] (spWEq C_Part C_Word) := ⟨_, _, [], ⟨a_Word_eq, i_Word_eq, k_Word_eq⟩, b_Word_eq, .nil, ok_Word_eq F_Word_eq B g_W IW W D_Part_eq⟩
  have D_Word_len : MethOk l.prog w K mg base CX0 1 C_Word "__len__" ["self"] [] (spWLen C_Part C_Word) := ⟨_, _, [], ⟨a_Word_len, i_Word_len, k_Word_len⟩, b_Word_len, .nil, ok_Word_len F_Word_len B W WP⟩
  have D_Word_str : MethOk l.prog w K mg base CX0 4 C_Word "__str__" ["self"] [] (spWStr C_Part C_Word) := ⟨_, _, [], ⟨a_Word_str, i_Word_str, k_Word_str⟩, b_Word_str, .nil, ok_Word_str F_Word_str W D_part_text⟩
  have D_Word_holes : PropOk l.prog w K mg base 1 C_Word "holes" (spHoles C_Part C_Word) := ⟨_, _, _, ⟨pa_Word_holes, pb_Word_holes, pt_Word_holes, ⟨_, pr_Word_holes⟩⟩, b_Word_holes, ok_Word_holes F_Word_holes B W⟩
  have D_Word_kinds : PropOk l.prog w K mg base 1 C_Word "kinds" (spKinds C_Part C_Word) := ⟨_, _, _, ⟨pa_Word_kinds, pb_Word_kinds, pt_Word_kinds, ⟨_, pr_Word_kinds⟩⟩, b_Word_kinds, ok_Word_kinds F_Word_kinds B W⟩
  have D_Word_named : PropOk l.prog w K mg base 1 C_Word "named" (spNamed C_Part C_Word) := ⟨_, _, _, ⟨pa_Word_named, pb_Word_named, pt_Word_named, ⟨_, pr_Word_named⟩⟩, b_Word_named, ok_Word_named F_Word_named B W WP⟩
  have okH := ok_Word_hole (P := l.prog) (w := w) (base := base) F_Word_hole B (PySem.W.mg_of X G gKT) hKT D_is_name M_Part M_WordH D_NoName D_NoKind D_NoMost
  obtain ⟨gU2, kb2⟩ := kb_hole F_Word_hole
  obtain ⟨gU1, kb1⟩ := kb_hole1 F_Word_hole
  have smH : SMet K C_Word mc_Word_hole "hole" sp_Word_hole f_Word_hole := ⟨st_Word_hole, sd_Word_hole, sg_Word_hole, sf_Word_hole, ⟨_, sc_Word_hole⟩, k_Word_hole⟩
  have smK : SMet K C_Word mc_Word_known "known" sp_Word_known f_Word_known := ⟨st_Word_known, sd_Word_known, sg_Word_known, sf_Word_known, ⟨_, sc_Word_known⟩, k_Word_known⟩
  have S_hole : StatKOk l.prog w K mg base (L2.CX l.prog w) 6 C_Word "hole" ["name", "kind", "most"] 2 ["most"] gHole (spHole K C_Part C_Word C_NoName C_NoKind C_NoMost) := ⟨_, _, _, _, gU2, smH, kb2, okH⟩
  have S_hole1 : StatKOk l.prog w K mg base (L2.CX l.prog w) 6 C_Word "hole" ["name", "kind", "most"] 1 [] gHole1 (spHole K C_Part C_Word C_NoName C_NoKind C_NoMost) := ⟨_, _, _, _, gU1, smH, kb1, okH⟩
  have S_knownK : StatOk l.prog w K mg base CX0 6 C_Word "known" ["rings"] [] (spKnownK K C_Part C_Word) := ⟨_, _, _, _, [], smK, b_Word_known, .nil, ok_Word_knownK F_Word_known D_moves_of1 D_known_part M_WordK⟩
  have S_knownX : StatOk l.prog w K mg base (L2.CX l.prog w) 6 C_Word "known" ["rings"] [] (spKnownX K C_NoRing) := ⟨_, _, _, _, [], smK, b_Word_known, .nil, ok_Word_knownX F_Word_known D_moves_of1X D_known_part M_WordK⟩
  have D_l_no_hole : DefOk l.prog w K mg base CX0 8 "_law_no_hole" ["_law_name_here", "_law_kind_here", "_law_bound"] [] spNoHole := ⟨_, _, [], PySem.W.mg_of X G a_l_no_hole, k_l_no_hole, b_l_no_hole, .nil, ok_l_no_hole F_l_no_hole g_W E_NoName E_NoKind E_NoMost G_NoName G_NoKind G_NoMost no_NoName no_NoKind no_NoMost X_NoName.exm (X_NoKind.exmNo X_NoName ne1 ne4) X_NoKind.exm (X_NoMost.exmNo X_NoName ne2 ne4) (X_NoMost.exmNo X_NoKind ne3 ne5) X_NoMost.exm S_hole⟩
  have D_l_holds_one : DefOk l.prog w K mg base CX0 8 "_law_holds_one" ["_law_name_here", "_law_kind_here", "_law_bound"] [] spHoldsOne := ⟨_, _, [], PySem.W.mg_of X G a_l_holds_one, k_l_holds_one, b_l_holds_one, .nil, ok_l_holds_one F_l_holds_one B (N z_str) g_W IW W neW hmW S_hole S_hole1 D_Word_holes D_Word_kinds D_Word_named D_Word_eq D_Word_len D_Word_str⟩
  have D_l_no_known : DefOk l.prog w K mg base CX0 8 "_law_no_known" ["_law_rings_here"] [] (spNoKnown K) := ⟨_, _, [], PySem.W.mg_of X G a_l_no_known, k_l_no_known, b_l_no_known, .nil, ok_l_no_known F_l_no_known g_W E_NoRing G_NoRing no_NoRing X_NoRing.exm S_knownX⟩
  have D_l_known_right : DefOk l.prog w K mg base CX0 9 "_law_known_right" ["_law_rings_here", "_law_row_here"] [] (spKnownRight K) := ⟨_, _, [], PySem.W.mg_of X G a_l_known_right, k_l_known_right, b_l_known_right, .nil, ok_l_known_right F_l_known_right B (N z_str) g_W W S_knownK D_Word_holes D_Word_named D_Word_len D_Word_str D_l_text D_l_no_known⟩
  exact ok_law F_law B D_l_cell D_l_row D_l_name D_l_spoilt D_l_is_known_kind D_l_is_name D_l_no_hole D_l_holds_one D_l_drawn D_l_rings D_l_known_right

end TW
open PySem PySem.W PyProof.Rows
set_option maxRecDepth 100000 in
set_option maxHeartbeats 0 in
theorem PySem.Challenge.cw_turnwires_k06_holes_and_known_wires_holds : PySem.Challenge.rw_turnwires_k06_holes_and_known_wires.Holds := by
  w_on; o_law; k_head; (case hw => w_witness2)
  k_fill
  refine L2.walk_of (l := PySem.Challenge.rw_turnwires_k06_holes_and_known_wires) (n := 63) (k := 10) (x := "_law_script") (CX := fun w => L2.CX0) (sp := fun w => TW.spLaw _) rfl (by decide) rfl ⟨rfl, by decide, by decide⟩ (fun w h Y => PySem.W.kIn_of Y) ?F (fun _ _ a ns hl _ hS => ⟨a, ns, rfl, hS, hl, fun _ => rfl⟩) (fun _ _ _ _ _ h => h)
  case F =>
    intro w mg fa h KX G hmg
    refine' TW.all_mk KX G hmg ?g_Part ?pg_Part ?hd_Part ?po_Part ?sa_Part ?mk_Part ?kc_Part ?n_Part_name ?n_Part_back ?n_Part_moves ?g_Word ?pg_Word ?hd_Word ?po_Word ?sa_Word ?mk_Word ?kc_Word ?n_Word_parts ?n_Word__kinds ?g_WireError ?g_NoName ?g_NoKind ?g_NoMost ?g_NoRing ?x_WireError ?x_NoName ?kc_NoName ?sa_NoName ?ga_NoName ?gg_NoName ?cl_NoName ?no_NoName ?x_NoKind ?kc_NoKind ?sa_NoKind ?ga_NoKind ?gg_NoKind ?cl_NoKind ?no_NoKind ?x_NoMost ?kc_NoMost ?sa_NoMost ?ga_NoMost ?gg_NoMost ?cl_NoMost ?no_NoMost ?x_NoRing ?kc_NoRing ?sa_NoRing ?ga_NoRing ?gg_NoRing ?cl_NoRing ?no_NoRing ?clP ?clW ?hget ?htk ?hmP ?hmW ?neW ?gKT ?lKT ?ne1 ?ne2 ?ne3 ?ne4 ?ne5 ?ne6 ?z_len ?z_range ?z_int ?z_list ?z_enumerate ?z_dict ?z_zip ?z_set ?z_sorted ?z_all ?z_abs ?z_isinstance ?z_bool ?z_str ?a_l_cell ?l_l_cell ?c_l_cell ?k_l_cell ?a_l_row ?l_l_row ?c_l_row ?k_l_row ?a_l_drawn ?l_l_drawn ?c_l_drawn ?k_l_drawn ?a_l_rings ?l_l_rings ?c_l_rings ?k_l_rings ?a_l_text ?l_l_text ?c_l_text ?k_l_text ?a_l_sign ?l_l_sign ?c_l_sign ?k_l_sign ?a_l_spoilt ?l_l_spoilt ?c_l_spoilt ?k_l_spoilt ?a_l_name ?l_l_name ?c_l_name ?k_l_name ?a_l_is_name ?l_l_is_name ?c_l_is_name ?k_l_is_name ?a_l_is_known_kind ?l_l_is_known_kind ?c_l_is_known_kind ?k_l_is_known_kind ?a_moves_of ?l_moves_of ?lT_moves_of ?c_moves_of ?k_moves_of ?a_rings_of ?l_rings_of ?c_rings_of ?k_rings_of ?a_rings_text ?l_rings_text ?c_rings_text ?k_rings_text ?a_is_name ?l_is_name ?c_is_name ?k_is_name ?a_Part_init ?i_Part_init ?l_Part_init ?c_Part_init ?k_Part_init ?a_Part_eq ?i_Part_eq ?l_Part_eq ?c_Part_eq ?k_Part_eq ?a_known_part ?l_known_part ?c_known_part ?k_known_part ?a_part_text ?l_part_text ?c_part_text ?k_part_text ?a_one_form ?l_one_form ?c_one_form ?k_one_form ?a_Word_init ?i_Word_init ?l_Word_init ?c_Word_init ?k_Word_init ?st_Word_hole ?sd_Word_hole ?sg_Word_hole ?sf_Word_hole ?sc_Word_hole ?l_Word_hole ?lT_Word_hole ?q_Word_hole_most ?c_Word_hole ?k_Word_hole ?st_Word_known ?sd_Word_known ?sg_Word_known ?sf_Word_known ?sc_Word_known ?l_Word_known ?c_Word_known ?k_Word_known ?pa_Word_holes ?pb_Word_holes ?pt_Word_holes ?pr_Word_holes ?l_Word_holes ?c_Word_holes ?k_Word_holes ?pa_Word_kinds ?pb_Word_kinds ?pt_Word_kinds ?pr_Word_kinds ?l_Word_kinds ?c_Word_kinds ?k_Word_kinds ?pa_Word_named ?pb_Word_named ?pt_Word_named ?pr_Word_named ?l_Word_named ?c_Word_named ?k_Word_named ?a_Word_eq ?i_Word_eq ?l_Word_eq ?c_Word_eq ?k_Word_eq ?a_Word_len ?i_Word_len ?l_Word_len ?c_Word_len ?k_Word_len ?a_Word_str ?i_Word_str ?l_Word_str ?c_Word_str ?k_Word_str ?a_NoName_init ?i_NoName_init ?l_NoName_init ?c_NoName_init ?k_NoName_init ?a_NoKind_init ?i_NoKind_init ?l_NoKind_init ?c_NoKind_init ?k_NoKind_init ?a_NoMost_init ?i_NoMost_init ?l_NoMost_init ?c_NoMost_init ?k_NoMost_init ?a_NoRing_init ?i_NoRing_init ?l_NoRing_init ?c_NoRing_init ?k_NoRing_init ?a_l_no_hole ?l_l_no_hole ?c_l_no_hole ?k_l_no_hole ?a_l_holds_one ?l_l_holds_one ?c_l_holds_one ?k_l_holds_one ?a_l_no_known ?l_l_no_known ?c_l_no_known ?k_l_no_known ?a_l_known_right ?l_l_known_right ?c_l_known_right ?k_l_known_right ?a_law ?l_law ?c_law ?k_law
    (case g_Part => k_is)
    (case pg_Part => k_is)
    (case hd_Part => k_is)
    (case po_Part => k_is)
    (case sa_Part => k_is)
    (case mk_Part => k_is)
    (case kc_Part => k_is)
    (case n_Part_name => k_is)
    (case n_Part_back => k_is)
    (case n_Part_moves => k_is)
    (case g_Word => k_is)
    (case pg_Word => k_is)
    (case hd_Word => k_is)
    (case po_Word => k_is)
    (case sa_Word => k_is)
    (case mk_Word => k_is)
    (case kc_Word => k_is)
    (case n_Word_parts => k_is)
    (case n_Word__kinds => k_is)
    (case g_WireError => k_is)
    (case g_NoName => k_is)
    (case g_NoKind => k_is)
    (case g_NoMost => k_is)
    (case g_NoRing => k_is)
    (case x_WireError => k_is)
    (case x_NoName => k_is)
    (case kc_NoName => k_is)
    (case sa_NoName => k_is)
    (case ga_NoName => k_is)
    (case gg_NoName => k_is)
    (case cl_NoName => k_is)
    (case no_NoName => k_is)
    (case x_NoKind => k_is)
    (case kc_NoKind => k_is)
    (case sa_NoKind => k_is)
    (case ga_NoKind => k_is)
    (case gg_NoKind => k_is)
    (case cl_NoKind => k_is)
    (case no_NoKind => k_is)
    (case x_NoMost => k_is)
    (case kc_NoMost => k_is)
    (case sa_NoMost => k_is)
    (case ga_NoMost => k_is)
    (case gg_NoMost => k_is)
    (case cl_NoMost => k_is)
    (case no_NoMost => k_is)
    (case x_NoRing => k_is)
    (case kc_NoRing => k_is)
    (case sa_NoRing => k_is)
    (case ga_NoRing => k_is)
    (case gg_NoRing => k_is)
    (case cl_NoRing => k_is)
    (case no_NoRing => k_is)
    (case clP => k_is)
    (case clW => k_is)
    (case hget => k_is)
    (case htk => k_is)
    (case hmP => k_is)
    (case hmW => k_is)
    (case neW => k_is)
    (case gKT => k_is)
    (case lKT => k_is)
    (case ne1 => decide)
    (case ne2 => decide)
    (case ne3 => decide)
    (case ne4 => decide)
    (case ne5 => decide)
    (case ne6 => decide)
    (case z_len => k_is)
    (case z_range => k_is)
    (case z_int => k_is)
    (case z_list => k_is)
    (case z_enumerate => k_is)
    (case z_dict => k_is)
    (case z_zip => k_is)
    (case z_set => k_is)
    (case z_sorted => k_is)
    (case z_all => k_is)
    (case z_abs => k_is)
    (case z_isinstance => k_is)
    (case z_bool => k_is)
    (case z_str => k_is)
    (case a_l_cell => k_is)
    (case l_l_cell => k_is)
    (case c_l_cell => k_is)
    (case k_l_cell => k_is)
    (case a_l_row => k_is)
    (case l_l_row => k_is)
    (case c_l_row => k_is)
    (case k_l_row => k_is)
    (case a_l_drawn => k_is)
    (case l_l_drawn => k_is)
    (case c_l_drawn => k_is)
    (case k_l_drawn => k_is)
    (case a_l_rings => k_is)
    (case l_l_rings => k_is)
    (case c_l_rings => k_is)
    (case k_l_rings => k_is)
    (case a_l_text => k_is)
    (case l_l_text => k_is)
    (case c_l_text => k_is)
    (case k_l_text => k_is)
    (case a_l_sign => k_is)
    (case l_l_sign => k_is)
    (case c_l_sign => k_is)
    (case k_l_sign => k_is)
    (case a_l_spoilt => k_is)
    (case l_l_spoilt => k_is)
    (case c_l_spoilt => k_is)
    (case k_l_spoilt => k_is)
    (case a_l_name => k_is)
    (case l_l_name => k_is)
    (case c_l_name => k_is)
    (case k_l_name => k_is)
    (case a_l_is_name => k_is)
    (case l_l_is_name => k_is)
    (case c_l_is_name => k_is)
    (case k_l_is_name => k_is)
    (case a_l_is_known_kind => k_is)
    (case l_l_is_known_kind => k_is)
    (case c_l_is_known_kind => k_is)
    (case k_l_is_known_kind => k_is)
    (case a_moves_of => k_is)
    (case l_moves_of => k_is)
    (case lT_moves_of => k_is)
    (case c_moves_of => k_is)
    (case k_moves_of => k_is)
    (case a_rings_of => k_is)
    (case l_rings_of => k_is)
    (case c_rings_of => k_is)
    (case k_rings_of => k_is)
    (case a_rings_text => k_is)
    (case l_rings_text => k_is)
    (case c_rings_text => k_is)
    (case k_rings_text => k_is)
    (case a_is_name => k_is)
    (case l_is_name => k_is)
    (case c_is_name => k_is)
    (case k_is_name => k_is)
    (case a_Part_init => k_is)
    (case i_Part_init => k_is)
    (case l_Part_init => k_is)
    (case c_Part_init => k_is)
    (case k_Part_init => k_is)
    (case a_Part_eq => k_is)
    (case i_Part_eq => k_is)
    (case l_Part_eq => k_is)
    (case c_Part_eq => k_is)
    (case k_Part_eq => k_is)
    (case a_known_part => k_is)
    (case l_known_part => k_is)
    (case c_known_part => k_is)
    (case k_known_part => k_is)
    (case a_part_text => k_is)
    (case l_part_text => k_is)
    (case c_part_text => k_is)
    (case k_part_text => k_is)
    (case a_one_form => k_is)
    (case l_one_form => k_is)
    (case c_one_form => k_is)
    (case k_one_form => k_is)
    (case a_Word_init => k_is)
    (case i_Word_init => k_is)
    (case l_Word_init => k_is)
    (case c_Word_init => k_is)
    (case k_Word_init => k_is)
    (case st_Word_hole => k_is)
    (case sd_Word_hole => k_is)
    (case sg_Word_hole => k_is)
    (case sf_Word_hole => k_is)
    (case sc_Word_hole => k_is)
    (case l_Word_hole => k_is)
    (case lT_Word_hole => k_is)
    (case q_Word_hole_most => k_is)
    (case c_Word_hole => k_is)
    (case k_Word_hole => k_is)
    (case st_Word_known => k_is)
    (case sd_Word_known => k_is)
    (case sg_Word_known => k_is)
    (case sf_Word_known => k_is)
    (case sc_Word_known => k_is)
    (case l_Word_known => k_is)
    (case c_Word_known => k_is)
    (case k_Word_known => k_is)
    (case pa_Word_holes => k_is)
    (case pb_Word_holes => k_is)
    (case pt_Word_holes => k_is)
    (case pr_Word_holes => k_is)
    (case l_Word_holes => k_is)
    (case c_Word_holes => k_is)
    (case k_Word_holes => k_is)
    (case pa_Word_kinds => k_is)
    (case pb_Word_kinds => k_is)
    (case pt_Word_kinds => k_is)
    (case pr_Word_kinds => k_is)
    (case l_Word_kinds => k_is)
    (case c_Word_kinds => k_is)
    (case k_Word_kinds => k_is)
    (case pa_Word_named => k_is)
    (case pb_Word_named => k_is)
    (case pt_Word_named => k_is)
    (case pr_Word_named => k_is)
    (case l_Word_named => k_is)
    (case c_Word_named => k_is)
    (case k_Word_named => k_is)
    (case a_Word_eq => k_is)
    (case i_Word_eq => k_is)
    (case l_Word_eq => k_is)
    (case c_Word_eq => k_is)
    (case k_Word_eq => k_is)
    (case a_Word_len => k_is)
    (case i_Word_len => k_is)
    (case l_Word_len => k_is)
    (case c_Word_len => k_is)
    (case k_Word_len => k_is)
    (case a_Word_str => k_is)
    (case i_Word_str => k_is)
    (case l_Word_str => k_is)
    (case c_Word_str => k_is)
    (case k_Word_str => k_is)
    (case a_NoName_init => k_is)
    (case i_NoName_init => k_is)
    (case l_NoName_init => k_is)
    (case c_NoName_init => k_is)
    (case k_NoName_init => k_is)
    (case a_NoKind_init => k_is)
    (case i_NoKind_init => k_is)
    (case l_NoKind_init => k_is)
    (case c_NoKind_init => k_is)
    (case k_NoKind_init => k_is)
    (case a_NoMost_init => k_is)
    (case i_NoMost_init => k_is)
    (case l_NoMost_init => k_is)
    (case c_NoMost_init => k_is)
    (case k_NoMost_init => k_is)
    (case a_NoRing_init => k_is)
    (case i_NoRing_init => k_is)
    (case l_NoRing_init => k_is)
    (case c_NoRing_init => k_is)
    (case k_NoRing_init => k_is)
    (case a_l_no_hole => k_is)
    (case l_l_no_hole => k_is)
    (case c_l_no_hole => k_is)
    (case k_l_no_hole => k_is)
    (case a_l_holds_one => k_is)
    (case l_l_holds_one => k_is)
    (case c_l_holds_one => k_is)
    (case k_l_holds_one => k_is)
    (case a_l_no_known => k_is)
    (case l_l_no_known => k_is)
    (case c_l_no_known => k_is)
    (case k_l_no_known => k_is)
    (case a_l_known_right => k_is)
    (case l_l_known_right => k_is)
    (case c_l_known_right => k_is)
    (case k_l_known_right => k_is)
    (case a_law => k_is)
    (case l_law => k_is)
    (case c_law => k_is)
    (case k_law => k_is)
#print axioms PySem.Challenge.cw_turnwires_k06_holes_and_known_wires_holds
