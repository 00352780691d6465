import PyProof.Rows.All
import Wide.All
import OpenK.AllK
import Wide.FinOn
import HandS.ForMost
import HandS.Walk
import HandS.Strs
import HandS.IsInst
import HandS.Gcd
import HandS.Defaults
import HandS.More
import HandS.Conv
import KE.KDictZip
import KE.KMathG
import HandS.ExcInit
import HandS.ExcField
import HandS.ExcIs
import HandS.ExcOwn
import HandS.ExcValue
import KE.KExcIs
import PySem.Challenge.RW_turnwires_k01_errors
set_option Elab.async false
set_option linter.all false
set_option maxRecDepth 100000
namespace TW
open PySem PySem.Spec PyProof.Rows L2
/-! ### dict(enumerate(list)) -/
/-- the places from k on, to the values -/
def enumKV : Nat → List V → List (Key × V)
  | _, [] => []
  | k, x :: xs => (Sum.inl (k : Int), x) :: enumKV (k + 1) xs
theorem enumKV_get : ∀ (xs : List V) (k i : Nat), (enumKV k xs)[i]? = (xs[i]?).map fun x => (Sum.inl ((k + i : Nat) : Int), x)
  | [], k, i => by simp [enumKV]
  | x :: xs, k, 0 => by simp [enumKV]
  | x :: xs, k, i + 1 => by
    show (enumKV (k + 1) xs)[i]? = _
    rw [enumKV_get xs (k + 1) i, show k + 1 + i = k + (i + 1) by omega]
    rfl
def enumKW : Nat → List Value → List (Key × Value)
  | _, [] => []
  | k, x :: xs => (Sum.inl (k : Int), x) :: enumKW (k + 1) xs
theorem enumKW_len : ∀ (xs : List Value) (k : Nat), (enumKW k xs).length = xs.length
  | [], _ => rfl
  | _ :: xs, k => congrArg Nat.succ (enumKW_len xs (k + 1))
theorem enumKW_get : ∀ (xs : List Value) (k i : Nat), (enumKW k xs)[i]? = (xs[i]?).map fun x => (Sum.inl ((k + i : Nat) : Int), x)
  | [], k, i => by simp [enumKW]
  | x :: xs, k, 0 => by simp [enumKW]
  | x :: xs, k, i + 1 => by
    show (enumKW (k + 1) xs)[i]? = _
    rw [enumKW_get xs (k + 1) i, show k + 1 + i = k + (i + 1) by omega]
    rfl
theorem enumK_rel : ∀ {xs : List V} {us : List Value} (k : Nat), Vals xs us → KV (enumKV k xs) (enumKW k us)
  | _, _, _, .nil => .nil
  | _, _, k, .cons r t => .cons ⟨rfl, r⟩ (enumK_rel (k + 1) t)
section
variable {X : Cx}
def tDictEnum (K : PySem.W.Frag) (ta : TE) : TE := fun σ H Q => ta σ H fun x H1 => ∃ a xs, x = .ref a ∧ SqL K H1 a xs ∧ ∀ p, H1 p = none → Q (.ref p) (upd H1 p (.dK (mergeK [] (enumKV 0 xs))))
theorem pe_dictEnum {e : Expr} {ta : TE} {p p2 pos pos2 : Pos} (hc : X.calm = true) (hg : Gl X "dict") (hm : X.mg "dict" = none) (hg2 : Gl X "enumerate") (hm2 : X.mg "enumerate" = none) (ha : PE X e ta)
    (n1 : starEach [.Call (.Name "enumerate" p2) [e] [] pos2] X.env = (false, eval (.Call (.Name "enumerate" p2) [e] [] pos2) X.env) :: starEach [] X.env := by rfl)
    (n2 : starEach [e] X.env = (false, eval e X.env) :: starEach [] X.env := by rfl) :
    PE X (.Call (.Name "dict" p) [.Call (.Name "enumerate" p2) [e] [] pos2] [] pos) (tDictEnum X.K ta) := by
  refine ⟨fun pins s σ H Q I h => ?_⟩
  refine Call_ (ld_blt I hg hm boot_dict (PyProof.Rows.callWith_type1 (args_cons ?_ n1) n1))
  refine Call_ (ld_blt I hg2 hm2 boot_enumerate (PyProof.Rows.callWith_type1 (one_arg ha I h (fun v s1 x H1 I1 r1 q1 => ?_) n2) n2))
  obtain ⟨a, xs, ex, hq, q⟩ := q1
  subst ex
  cases r1
  obtain ⟨its, rv, pl, hz⟩ := I1.list hq
  have hal : a < s1.heap.objs.size := by obtain ⟨_, q, _⟩ := pl.isList; exact Heap.lt_size q
  refine call_enumerate_list pl.isList fun h' he hit hsz hk => args_nil ?_
  have P := PySem.PairArg.enumerate (prog := X.prog) (w := X.w) (s1.heap.objs.size + 1) s1.heap.objs.size a (Nat.succ_ne_self _) (Nat.ne_of_lt (Nat.lt_succ_of_lt hal)) (Nat.ne_of_lt hal) its.toArray
  have I2 : Inv X pins σ H1 { s1 with heap := h' } := I1.kept (t' := s1.toks) hk
  refine PySem.call_dict_pairs (s := { s1 with heap := h' }) (knd := mixKind X.prog X.w) (kvs := enumKW 0 its) P (I.ok.hd hc) ⟨⟨_, he⟩, hit, pl.isList.at fun o q => hk _ o q⟩ ⟨?_, ?_⟩ ?_ ?_
  · rw [enumKW_len]; simp
  · rintro i key v ⟨⟨t, rfl⟩, hv⟩
    refine ⟨Sum.inl (i : Int), ?_, mixKind_int X.prog X.w _ _⟩
    rw [enumKW_get]
    have : its[i]? = some v := by simpa using hv
    rw [this, Nat.zero_add]
    rfl
  · simpa [← rv.length] using hz
  · intro h2 tk hd hk2
    have hbig : (h'.objs.size == sysModules) = false := beq_eq_false_iff_ne.mpr (Nat.ne_of_gt I2.big)
    have hlen : (mergeK [] (enumKV 0 xs)).length ≤ sizeLine := by
      refine Nat.le_trans (length_mergeK _ []) ?_
      rw [List.length_nil, Nat.zero_add, (enumK_rel 0 rv).length, enumKW_len, ← rv.length]
      exact hz
    have keep : ∀ b u, s1.heap.get? b = some u → h2.get? b = some u := fun b u e => by
      refine hk2 b u (fun hb => ?_) (hk b u e)
      have hbl := Heap.lt_size e
      have : b = s1.heap.objs.size + 1 ∨ b = s1.heap.objs.size := by simpa using hb
      rcases this with e' | e'
      · rw [e'] at hbl; exact absurd hbl (Nat.not_lt.mpr (Nat.le_succ _))
      · rw [e'] at hbl; exact absurd hbl (Nat.lt_irrefl _)
    have dk : ObjOk X.prog X.w (upd H1 h'.objs.size (.dK (mergeK [] (enumKV 0 xs)))) h2 h'.objs.size (.dK (mergeK [] (enumKV 0 xs))) :=
      ⟨hlen, hbig, merged [] (enumKW 0 its), KV.merge (enumK_rel 0 rv) .nil, hd⟩
    refine ⟨.ref h'.objs.size, _, I1.laid (t' := tk) keep (by omega) dk, rfl, q _ (I2.hok.fresh (Nat.le_refl _))⟩
end
end TW

namespace TW
open PySem PySem.Spec PyProof.Rows L2
section
variable {X : Cx}
/-- lcm(a, b) -/
def rLcm : List V → Hp → VK → Prop := fun vs H Q => ∃ a b : Nat, vs = [.int (a : Int), .int (b : Int)] ∧ a < 2 ^ 64 ∧ b < 2 ^ 64 ∧ Q (.int ((Nat.lcm a b : Nat) : Int)) H
theorem cr_lcm : CallR X (.builtin "math.lcm") rLcm := by
  intro pins s σ H vs us Q I r h
  obtain ⟨a, b, rfl, ha, hb, q⟩ := h
  obtain ⟨t, u, rfl⟩ := Vals.int2 r
  have e : (((Nat.lcm 1 (a : Int).natAbs).lcm (b : Int).natAbs : Nat) : Int) = ((Nat.lcm a b : Nat) : Int) := by
    rw [Int.natAbs_natCast, Int.natAbs_natCast, Nat.lcm_one_left]
  refine PySem.W.mg_lcm_v (by rw [Int.natAbs_natCast]; exact ha) (by rw [Int.natAbs_natCast]; exact hb) e ?_ ⟨.int _, H, I.tok _, ⟨_, rfl⟩, q⟩
  rw [Int.natAbs_natCast]
  have h1 : Nat.lcm a b < 2 ^ 128 := by
    refine Nat.lt_of_le_of_lt (Nat.div_le_self _ _) ?_
    calc a * b ≤ a * 2 ^ 64 := Nat.mul_le_mul_left _ (Nat.le_of_lt hb)
      _ < 2 ^ 64 * 2 ^ 64 := by omega
      _ = 2 ^ 128 := by decide
  rw [bitsLine_eq]
  by_cases z : Nat.lcm a b = 0
  · rw [z]; decide
  · exact Nat.lt_trans ((Nat.log2_lt z).mpr h1) (by decide)
end
/-! ### defs, methods, classes with their promises -/
section
variable (P : Program) (w : World) (K : PySem.W.Frag) (mg : Str → Option Value) (base : Heap)
/-- the def that the module's name x holds keeps sp; dvs: the defaults that fill up -/
def DefOk (CX : CXT) (k : Nat) (x : Str) (ps : List Str) (dvs : List V) (sp : Sp) : Prop :=
  ∃ (f : Addr) (fd : FuncData) (ds : List Value), mg x = some (.ref f) ∧ PySem.W.keepIn K (.ref f) = true ∧ Binds K fd ps ds ∧ Vals dvs ds ∧ FnOk P w K mg base CX k f fd ps sp
/-- the method m of the class at C -/
def MethOk (CX : CXT) (k : Nat) (C : Addr) (m : Str) (ps : List Str) (dvs : List V) (sp : Sp) : Prop :=
  ∃ (f : Addr) (fd : FuncData) (ds : List Value), Meth K C m f ∧ Binds K fd ps ds ∧ Vals dvs ds ∧ FnOk P w K mg base CX k f fd ps sp
/-- the class at C, by the module's name x, its __init__ -/
def MakeOk (CX : CXT) (k : Nat) (C : Addr) (x : Str) (ps : List Str) (dvs : List V) (sp : Sp) : Prop :=
  mg x = some (.ref C) ∧ ∃ (f : Addr) (fd : FuncData) (ds : List Value), Mk K C f ∧ Binds K fd ps ds ∧ Vals dvs ds ∧ FnOk P w K mg base CX k f fd ps sp
end
section
variable {X : Cx} {CX : CXT} {k k' : Nat} {ps : List Str} {sp : Sp} {dvs : List V} {E : XK} {x m : Str} {p pos apos : Pos} {e o : Expr} {es : List Expr} {ta : TE} {t : TA} {C : Addr}
theorem pe_d (D : DefOk X.prog X.w X.K X.mg X.base CX k x ps dvs sp) (hr : Room k' X.A) (hx : Passes CX X E) (ha : PA X (e :: es) t) (hk : k ≤ k' := by decide) (hg : Gl X x := by rfl) (hdb : (x == ("__debug__" : Str)) = false := by decide)
    (he : starEach (e :: es) X.env = (false, eval e X.env) :: starEach es X.env := by rfl) (hpl : (backTo pos (starEach es X.env)).any (·.1) = false := by rfl) :
    PE X (.Call (.Name x p) (e :: es) [] pos) (tCall sp dvs E t) := by
  obtain ⟨f, fd, ds, hm, kp, hb, hd, F⟩ := D
  exact pe_call F (hr.mono hk) hg hm kp hb hd hx ha hdb he hpl
theorem pe_m {pl : Sem Bool} (D : MethOk X.prog X.w X.K X.mg X.base CX k C m ps dvs sp) (c : Cls X.K C) (hr : Room k' X.A) (hx : Passes CX X E) (he : PE X o ta) (ha : PA X (e :: es) t) (hk : k ≤ k' := by decide)
    (hst : starEach (e :: es) X.env = (false, eval e X.env) :: starEach es X.env := by rfl) (hpl : (backTo pos (starEach es X.env)).any (·.1) = false := by rfl)
    (ht : eval (.Call (.Attribute o m apos) (e :: es) [] pos) X.env = (do
      let ov ← eval o X.env
      standAt apos.atName
      let (f, first) ← holding [ov] (getMethod ov m pl)
      callWith pos f first (backTo pos (starEach (e :: es) X.env)) (backToKw pos (keywordEach [] X.env))) := by rfl) :
    PE X (.Call (.Attribute o m apos) (e :: es) [] pos) (tMeth C m sp dvs E ta t) := by
  obtain ⟨f, fd, ds, hm, hb, hd, F⟩ := D
  exact pe_meth he c hm F (hr.mono hk) hb hd hx ha hst hpl ht
theorem pe_m0 {pl : Sem Bool} (D : MethOk X.prog X.w X.K X.mg X.base CX k C m ps dvs sp) (c : Cls X.K C) (hr : Room k' X.A) (hx : Passes CX X E) (he : PE X o ta) (hk : k ≤ k' := by decide)
    (ht : eval (.Call (.Attribute o m apos) [] [] pos) X.env = (do
      let ov ← eval o X.env
      standAt apos.atName
      let (f, first) ← holding [ov] (getMethod ov m pl)
      callWith pos f first (backTo pos (starEach [] X.env)) (backToKw pos (keywordEach [] X.env))) := by rfl) :
    PE X (.Call (.Attribute o m apos) [] [] pos) (tMeth C m sp dvs E ta tNil) := by
  obtain ⟨f, fd, ds, hm, hb, hd, F⟩ := D
  exact pe_meth0 he c hm F (hr.mono hk) hb hd hx ht
theorem pe_mk' (D : MakeOk X.prog X.w X.K X.mg X.base CX k C x ps dvs sp) (hr : Room k' X.A) (hx : Passes CX X E) (ha : PA X (e :: es) t) (hk : k + 1 ≤ k' := by decide) (hg : Gl X x := by rfl) (hdb : (x == ("__debug__" : Str)) = false := by decide)
    (he : starEach (e :: es) X.env = (false, eval e X.env) :: starEach es X.env := by rfl) (hpl : (backTo pos (starEach es X.env)).any (·.1) = false := by rfl) :
    PE X (.Call (.Name x p) (e :: es) [] pos) (tMake C sp dvs E t) := by
  obtain ⟨hm, f, fd, ds, M, hb, hd, F⟩ := D
  exact pe_make M F (hr.mono hk) hg hm hb hd hx ha hdb he hpl
end
end TW

namespace TW
open PySem PySem.Spec PyProof.Rows L2
/-! ### errors with one attribute, held as values -/
section
variable (P : Program) (w : World) (K : PySem.W.Frag) (mg : Str → Option Value) (base : Heap)
/-- what __init__ of such a class does: the attribute f is the second value -/
def spErr (C : Addr) (f : Str) : Sp := fun vs H Q _ => ∃ (a : Addr) (v : V), vs = [.ref a, v] ∧ H a = some (exo a C none) ∧ ∀ d, H d = none → d ≠ a → Q .non (upd (upd H d (exd d [(f, v)])) a (exo a C (some d)))
structure ErrC (C : Addr) : Prop where
  oex : OexC K C
  xf : XfC K C
  kc : ExcC K C
/-- the error class at C, by the module's name x; its attribute f -/
def ErrOk (CX : CXT) (k : Nat) (C : Addr) (x f p : Str) : Prop :=
  ErrC K C ∧ mg x = some (.ref C) ∧ ∃ (fI : Addr) (fd : FuncData), PySem.W.findIn K (.ref C) "__init__" = some (some (.ref fI)) ∧ PySem.W.typeIn K (.ref fI) = some (.type "function") ∧ Binds K fd ["self", p] [] ∧
    FnOk P w K mg base CX k fI fd ["self", p] (spErr C f)
end
section
variable {X : Cx} {CX : CXT} {k k' : Nat} {C : Addr} {x f q : Str} {e : Expr} {te : TE} {p pos : Pos}
def tErr (C : Addr) (f : Str) (te : TE) : TE := fun σ H Q => te σ H fun v H1 => ∀ (a d : Addr) (H' : Hp), Same H1 H' → H1 a = none → H1 d = none → H' a = some (exo a C (some d)) → H' d = some (exd d [(f, v)]) → Q (.ref a) H'
theorem pe_err (D : ErrOk X.prog X.w X.K X.mg X.base CX k C x f q) (hr : Room k' X.A) (hx : Passes CX X (fun _ _ _ => False)) (he : PE X e te) (hk : k + 1 ≤ k' := by decide) (hg : Gl X x := by rfl)
    (hdb : (x == ("__debug__" : Str)) = false := by decide) (hs : starEach [e] X.env = (false, eval e X.env) :: starEach [] X.env := by rfl) (hpl : (backTo pos (starEach [] X.env)).any (·.1) = false := by rfl) :
    PE X (.Call (.Name x p) [e] [] pos) (tErr C f te) := by
  obtain ⟨T, hm, fI, fd, iC, tI, hb, F1⟩ := D
  refine ⟨fun pins s σ H Q I h => ?_⟩
  obtain ⟨nm, q, N, bs, bm, sn, sub, ab, col, dd, k0, k1, k2, k3, k5, hC, hbm⟩ := T.oex.cls
  have hr1 := hr.mono hk
  refine wpAny_Call_Name_kw (ld_glob I hg hm ?_ hdb)
  refine PySem.W.callWith_K (h₀ := X.base) I.ok.mod.kin T.oex.kC ?_ hs hpl
  rw [hs]
  show wpAny _ _ (spliced ((false, eval e X.env) :: backTo pos (starEach [] X.env))) _ _ s
  refine Calls.spliced_cons (thn (he.run pins s σ H _ I h) fun u s1 ⟨v, H1, I1, r1, q1⟩ => ?_)
  refine Calls.spliced_nil ⟨I1.kIn, ?_⟩
  show wpAny _ _ (call (.ref C) [u]) _ _ _
  obtain ⟨hp, g, dr, tk, os⟩ := s1
  have hsz : hp.objs.size ≤ hp.objs.size + 1 := Nat.le_succ _
  have hn : H1 (hp.objs.size + 1) = none := I1.hok.fresh hsz
  have kk : ∀ b o, hp.get? b = some o → ((hp.push (PySem.W.kdv_tup [u])).push (PySem.HandSPX.excO C hp.objs.size)).get? b = some o := fun b o e => Heap.get?_push_of_some _ (Heap.get?_push_of_some _ e)
  have hget : ((hp.push (PySem.W.kdv_tup [u])).push (PySem.HandSPX.excO C hp.objs.size)).get? (hp.objs.size + 1) = some (PySem.HandSPX.excO C hp.objs.size) := by heap_get
  have I2 : Inv X pins σ (upd H1 (hp.objs.size + 1) (exo (hp.objs.size + 1) C none)) ⟨(hp.push (PySem.W.kdv_tup [u])).push (PySem.HandSPX.excO C hp.objs.size), g, dr, tk, os⟩ :=
    I1.laid (t' := tk) (a := hp.objs.size + 1) (o := exo (hp.objs.size + 1) C none) (h' := (hp.push (PySem.W.kdv_tup [u])).push (PySem.HandSPX.excO C hp.objs.size)) kk hsz (exo_ok hget)
  have r2 : Vals [V.ref (hp.objs.size + 1), v] [Value.ref (hp.objs.size + 1), u] := .cons rfl (.cons r1 .nil)
  have hus : [u].length ≤ sizeLine := by
    rw [sizeLine_eq]
    exact (by decide : 1 ≤ 16777216)
  have hsp : spErr C f [V.ref (hp.objs.size + 1), v] (upd H1 (hp.objs.size + 1) (exo (hp.objs.size + 1) C none))
      (fun v' H2 => v' = .non ∧ Q (.ref (hp.objs.size + 1)) H2) (fun _ _ _ => False) := by
    refine ⟨_, v, rfl, upd_same, fun d nd dne => ⟨rfl, ?_⟩⟩
    have nd1 : H1 d = none := by rw [upd_ne dne] at nd; exact nd
    refine q1 _ d _ ?_ hn nd1 upd_same (by rw [upd_ne dne, upd_same])
    intro b o hb
    rw [upd_ne (ne_of_none hb hn), upd_ne (ne_of_none hb nd1), upd_ne (ne_of_none hb hn)]
    exact hb
  refine wpAny_call (PySem.HandSPX.call_own F.excBase_ValueError (fun Y => PySem.HandSPX.refsVE_contains Y bm hbm) (I1.kIn _ _ hC) (PySem.W.looks_findIn I1.kIn iC) (fun self => PySem.W.bind_fn I1.kIn self tI) hus
    (codeAny_mono (F1.run _ X.stack _ _ ⟨[Value.ref (hp.objs.size + 1), u], []⟩ [Value.ref (hp.objs.size + 1), u] _ _ (fun _ _ _ => False) (hr1.make C [u] []) (I2.env0.make C [u] []) (by have z := hb _ [Value.ref (hp.objs.size + 1), u] I2.kIn rfl; exact z) r2 hsp) fun r s' hq' => ?_))
  cases r with
  | error er => exact hx pins σ _ _ er s' I2 hq'
  | ok fl =>
    cases fl with
    | ret u' =>
      obtain ⟨v', H2, os2, bare2, un2, hok2, rv, ev, q2⟩ := hq'
      subst ev
      obtain ⟨h2, g2, d2, t2, os'⟩ := s'
      exact ⟨rv, .ref (hp.objs.size + 1), H2, I2.call' (ch := []) os2 un2 hok2 bare2 (fun b z => absurd z (by simp)), rfl, q2⟩
    | next => exact False.elim hq'
    | brk => exact False.elim hq'
    | cont => exact False.elim hq'
/-! ### the class without own __init__, called with nothing -/
theorem pe_err0 {bmB : List Value} {B newId initId : String} (F : ExcBaseFacts B newId initId bmB) (qq : PySem.W.excIn X.K C bmB newId = true) (gC : X.mg x = some (.ref C)) (kC : PySem.W.keepIn X.K (.ref C) = true) (hg : Gl X x := by rfl)
    (hdb : (x == ("__debug__" : Str)) = false := by decide) :
    PE X (.Call (.Name x p) [] [] pos) (fun σ H Q => ∀ a, H a = none → Q (.ref a) (upd H a (exo a C none))) := by
  refine ⟨fun pins s σ H Q I h => ?_⟩
  refine wpAny_Call_Name_kw (ld_glob I hg gC ?_ hdb)
  refine PySem.W.callWith_K0 I.kIn kC ?_
  show wpAny _ _ (call (.ref C) []) _ _ _
  obtain ⟨bm, N, nm, qn, bs, hdct, sn, sub, ab, col, dd, k0, k1, k2, k3, k5, mN, hC, hN, hni, T⟩ := exc_obj I.kIn qq
  refine wpAny_call_exc_subT F T hC hN hni (fun h' a hm => ?_) (by show 0 ≤ sizeLine; exact Nat.zero_le _)
  have hn : H a = none := I.hok.gone hm.new
  obtain ⟨t, ht, _, _⟩ := hm.there
  exact ⟨.ref a, upd H a (exo a C none), I.laidN hm.keeps hm.new hn (exo_ok ht), rfl, h a hn⟩
/-! ### e.f -/
def tEf (K : PySem.W.Frag) (f : Str) (te : TE) : TE := fun σ H Q => te σ H fun x H1 => ∃ (a C d : Addr) (fs : List (Str × V)) (v : V), x = .ref a ∧ XfC K C ∧ PySem.W.findIn K (.ref C) f = some none ∧ H1 a = some (exo a C (some d)) ∧ H1 d = some (exd d fs) ∧ fs.lookup f = some v ∧ Q v H1
theorem pe_ef (he : PE X e te) (hb : attributeBase e f X.env (eval e X.env) = eval e X.env := by rfl) : PE X (.Attribute e f pos) (tEf X.K f te) := by
  refine ⟨fun pins s σ H Q I h => ?_⟩
  refine attr_of hb (thn (he.run pins s σ H _ I h) fun u s1 hh => ?_)
  obtain ⟨x, H1, I1, rx, a, C, d, fs, v, ex, T, hno, ea, ed, l, q⟩ := hh
  subst ex
  obtain rfl : u = Value.ref a := rx
  obtain ⟨t1, ho⟩ := exo_at I1.hok ea
  obtain ⟨mA, hns, hr⟩ := exd_at I1.hok ed
  obtain ⟨od, hod, hl⟩ := lookIn_ns hns
  obtain ⟨u, hu, ru⟩ := RelO.some_of (v := v) (o := mA f) (by rw [← l]; exact hr f)
  have J : PySem.W.InstAt s1.heap a { cls := .ref C, dict := some d, data := .fields #[.ref t1, .none, .none, .none, .bool false, .none] } C (some od) := ⟨ho, rfl, rfl, hod⟩
  exact HandSPX.exc_get I1.kIn J T.ga T.gg T.exC (PySem.W.findObj_own T.hdC hno rfl (by rw [hl, hu])) (handed_of ru) ⟨v, H1, I1.tok _, ru, q⟩
/-! ### isinstance -/
def rIsX (K : PySem.W.Frag) : List V → Hp → VK → Prop := fun xs H Q => ∃ (a C : Addr) (d : Option Addr) (c : V) (cv : Value) (b : Bool), xs = [.ref a, c] ∧ ExcC K C ∧ H a = some (exo a C d) ∧ (∀ dx, d = some dx → ∃ fs, H dx = some (exd dx fs)) ∧
  (∀ u, RelV c u → u = cv) ∧ PySem.W.kitOne K (.ref C) cv = some b ∧ Q (.bl b) H
theorem call_isX : CallR X (.builtin "isinstance") (rIsX X.K) := by
  intro pins s σ H xs us Q I r h
  obtain ⟨a, C, d, c, cv, b, rfl, T, ea, ed, hcv, e, q⟩ := h
  cases r with
  | cons rx rr =>
    cases rr with
    | cons rt rr =>
      cases rr
      cases rx
      have ec := hcv _ rt
      subst ec
      obtain ⟨t1, ho⟩ := exo_at I.hok ea
      have J : ∃ od, PySem.W.InstAt s.heap a { cls := .ref C, dict := d, data := .fields #[.ref t1, .none, .none, .none, .bool false, .none] } C od := by
        cases d with
        | none => exact ⟨none, ho, rfl, rfl, trivial⟩
        | some dx =>
          obtain ⟨fs, hd⟩ := ed dx rfl
          obtain ⟨mA, hns, _⟩ := exd_at I.hok hd
          obtain ⟨od, hod, _⟩ := lookIn_ns hns
          exact ⟨some od, ho, rfl, rfl, hod⟩
      obtain ⟨od, J⟩ := J
      have hcl : (PySem.W.clsIn X.K C).isSome = true := by
        obtain ⟨cd, hc, _⟩ := PySem.W.any_some T.hd
        rw [hc]; rfl
      exact PySem.W.kia_one (PySem.W.kitx_exc hcl T.hg T.hk T.hs T.ha T.hn T.ht T.hm) I.kIn J e (fun z => nomatch z) fun tk => ⟨.bl b, H, I.kept (t' := tk) fun _ _ z => z, rfl, q⟩
end
end TW

namespace TW
open PySem PySem.Spec PyProof.Rows L2
/-! ### the text by places -/
def top (i : Nat) : Stmt := PySem.Challenge.pw_turnwires_k01_errors.main.body.getD i (.Pass ⟨0, 0, 0, 0⟩)
/-! ### values -/
def nv (n : Nat) : V := .int (n : Int)
theorem same_upd {H : Hp} {p : Addr} {o : HO} (h : H p = none) : Same H (upd H p o) := fun b x e => by rw [upd_ne (ne_of_none e h)]; exact e
/-- an object that was not tracked ahead may change -/
theorem mutS {H H' : Hp} {p : Addr} {o : HO} (e : Same H H') (h : H p = none) : Same H (upd H' p o) := fun a u ha => by rw [upd_ne (ne_of_none ha h)]; exact e a u ha
theorem small64 {n : Nat} (h : n ≤ 100000) : n < sizeLine := Nat.lt_of_le_of_lt h (by decide)
theorem nv_get {l : List Nat} {i : Nat} {x : Nat} (h : l[i]? = some x) : (l.map nv)[i]? = some (nv x) := by rw [List.getElem?_map, h]; rfl
theorem of_nv_get {l : List Nat} {i : Nat} {y : V} (h : (l.map nv)[i]? = some y) : ∃ x, l[i]? = some x ∧ y = nv x := by
  rw [List.getElem?_map] at h
  cases e : l[i]? with
  | none => rw [e] at h; cases h
  | some x => rw [e] at h; exact ⟨x, rfl, (Option.some.inj h).symm⟩
theorem of_int_get {l : List Int} {i : Nat} {y : V} (h : (l.map V.int)[i]? = some y) : ∃ x, l[i]? = some x ∧ y = V.int x := by
  rw [List.getElem?_map] at h
  cases e : l[i]? with
  | none => rw [e] at h; cases h
  | some x => rw [e] at h; exact ⟨x, rfl, (Option.some.inj h).symm⟩
theorem decT {p : Prop} [Decidable p] {A B : Prop} (h : p) (a : A) : if (decide p) = true then A else B := by rw [decide_eq_true h]; exact iteT a
theorem decF {p : Prop} [Decidable p] {A B : Prop} (h : ¬ p) (b : B) : if (decide p) = true then A else B := by rw [decide_eq_false h]; exact iteF b
theorem yesT {σ : L2.St} {H : Hp} {A B : Hp → Prop} (h : A H) : tYes σ H (fun b H1 => if b = true then A H1 else B H1) := by
  show (if true = true then A H else B H)
  exact iteT h
/-- built-in names that the module leaves alone -/
structure Blt (mg : Str → Option Value) : Prop where
  len : mg "len" = none
  range : mg "range" = none
  int : mg "int" = none
  list : mg "list" = none
  enumerate : mg "enumerate" = none
  dict : mg "dict" = none
  zip : mg "zip" = none
  set : mg "set" = none
  sorted : mg "sorted" = none
  all : mg "all" = none
  abs : mg "abs" = none
  isinstance : mg "isinstance" = none
  bool : mg "bool" = none
section
variable {P : Program} {w : World} {K : PySem.W.Frag} {mg : Str → Option Value} {base : Heap}
/-! ### _law_cell: some int -/
abbrev s_l_cell : Stmt := top 20
theorem sc_l_cell : FnScope ["_law_script", "_law_k"] ["_law_script", "_law_k"] (defScope s_l_cell) := ⟨rfl, rfl, rfl, by decide +kernel, rfl, by decide +kernel, by decide +kernel⟩

def spCell (K : PySem.W.Frag) : Sp := fun vs H Q _ => ∃ (a : Addr) (ns : List Int) (k : Nat), vs = [.ref a, nv k] ∧ SqL K H a (ns.map V.int) ∧ ∀ z : Int, Q (.int z) H
theorem ok_cell {f : Addr} {fd : FuncData} (F : Fun K "_law_cell" "_law_cell" s_l_cell f fd) (T : Blt mg) : FnOk P w K mg base CX0 1 f fd ["_law_script", "_law_k"] (spCell K) := by
  refine F.ok sc_l_cell (fun vs H Q E h => ?_) (fun cdv A outer s H vs Q E hr h => ?_)
  · obtain ⟨a, ns, k, rfl, _⟩ := h; rfl
  · obtain ⟨a, ns, k, rfl, hS, q⟩ := h
    refine ⟨_, (pss_cons (ps_if (pt_cmpR op_lt (pv 1) (pe_callB call_len_seq (by rfl) T.len PySem.boot_len (pa_cons (pv 0) pa_nil)) (nomark _)) (pss_one (ps_ret (pe_ix ix_list (pv 0) (pv 1) (fun _ _ => rfl)))) pss_nil)
    (pss_one (ps_ret pe_int))), ?_⟩
    refine ⟨_, rfl, .ref a, rfl, a, _, rfl, .inl hS, _, _, rfl, rfl, _, rfl, ?_⟩
    by_cases c : k < ns.length
    · refine decT (by rw [List.length_map]; omega) ?_
      obtain ⟨z, hz⟩ : ∃ z, ns[k]? = some z := ⟨ns[k], List.getElem?_eq_getElem c⟩
      exact ⟨.ref a, rfl, _, rfl, a, _, _, _, rfl, rfl, hS, atI_nat (by rw [List.getElem?_map, hz]; rfl), q z⟩
    · refine decF (by rw [List.length_map]; omega) ?_
      exact q 0
end
/-! ### the errors' __init__ -/
section
variable {P : Program} {w : World} {K : PySem.W.Frag} {mg : Str → Option Value} {base : Heap} {C : Addr}
abbrev s_NoSize_init : Stmt := inClass (top 2) 0
theorem sc_NoSize_init : FnScope ["self", "size"] ["self", "size"] (defScope s_NoSize_init) := ⟨rfl, rfl, rfl, by decide +kernel, rfl, by decide +kernel, by decide +kernel⟩

theorem ok_NoSize_init {f : Addr} {fd : FuncData} (F : Fun K "__init__" "NoSize.__init__" s_NoSize_init f fd) (T : ErrC K C) (hno : PySem.W.findIn K (.ref C) "size" = some none) : FnOk P w K mg base CX0 1 f fd ["self", "size"] (spErr C "size") := by
  refine F.ok sc_NoSize_init (fun vs H Q E h => ?_) (fun cdv A outer s H vs Q E hr h => ?_)
  · obtain ⟨a, v, rfl, _⟩ := h; rfl
  · obtain ⟨a, v, rfl, ha, q⟩ := h
    exact ⟨_, pss_one (ps_ost (pv 0) (pv 1)), _, rfl, _, rfl, a, C, rfl, T.oex, hno, .inl ⟨ha, fun dx n ne => q dx n ne⟩⟩
abbrev s_NoRing_init : Stmt := inClass (top 3) 0
theorem sc_NoRing_init : FnScope ["self", "index"] ["self", "index"] (defScope s_NoRing_init) := ⟨rfl, rfl, rfl, by decide +kernel, rfl, by decide +kernel, by decide +kernel⟩

theorem ok_NoRing_init {f : Addr} {fd : FuncData} (F : Fun K "__init__" "NoRing.__init__" s_NoRing_init f fd) (T : ErrC K C) (hno : PySem.W.findIn K (.ref C) "index" = some none) : FnOk P w K mg base CX0 1 f fd ["self", "index"] (spErr C "index") := by
  refine F.ok sc_NoRing_init (fun vs H Q E h => ?_) (fun cdv A outer s H vs Q E hr h => ?_)
  · obtain ⟨a, v, rfl, _⟩ := h; rfl
  · obtain ⟨a, v, rfl, ha, q⟩ := h
    exact ⟨_, pss_one (ps_ost (pv 0) (pv 1)), _, rfl, _, rfl, a, C, rfl, T.oex, hno, .inl ⟨ha, fun dx n ne => q dx n ne⟩⟩
abbrev s_NoPlace_init : Stmt := inClass (top 4) 0
theorem sc_NoPlace_init : FnScope ["self", "place"] ["self", "place"] (defScope s_NoPlace_init) := ⟨rfl, rfl, rfl, by decide +kernel, rfl, by decide +kernel, by decide +kernel⟩

theorem ok_NoPlace_init {f : Addr} {fd : FuncData} (F : Fun K "__init__" "NoPlace.__init__" s_NoPlace_init f fd) (T : ErrC K C) (hno : PySem.W.findIn K (.ref C) "place" = some none) : FnOk P w K mg base CX0 1 f fd ["self", "place"] (spErr C "place") := by
  refine F.ok sc_NoPlace_init (fun vs H Q E h => ?_) (fun cdv A outer s H vs Q E hr h => ?_)
  · obtain ⟨a, v, rfl, _⟩ := h; rfl
  · obtain ⟨a, v, rfl, ha, q⟩ := h
    exact ⟨_, pss_one (ps_ost (pv 0) (pv 1)), _, rfl, _, rfl, a, C, rfl, T.oex, hno, .inl ⟨ha, fun dx n ne => q dx n ne⟩⟩
abbrev s_WrongSize_init : Stmt := inClass (top 5) 0
theorem sc_WrongSize_init : FnScope ["self", "size"] ["self", "size"] (defScope s_WrongSize_init) := ⟨rfl, rfl, rfl, by decide +kernel, rfl, by decide +kernel, by decide +kernel⟩

theorem ok_WrongSize_init {f : Addr} {fd : FuncData} (F : Fun K "__init__" "WrongSize.__init__" s_WrongSize_init f fd) (T : ErrC K C) (hno : PySem.W.findIn K (.ref C) "size" = some none) : FnOk P w K mg base CX0 1 f fd ["self", "size"] (spErr C "size") := by
  refine F.ok sc_WrongSize_init (fun vs H Q E h => ?_) (fun cdv A outer s H vs Q E hr h => ?_)
  · obtain ⟨a, v, rfl, _⟩ := h; rfl
  · obtain ⟨a, v, rfl, ha, q⟩ := h
    exact ⟨_, pss_one (ps_ost (pv 0) (pv 1)), _, rfl, _, rfl, a, C, rfl, T.oex, hno, .inl ⟨ha, fun dx n ne => q dx n ne⟩⟩
abbrev s_NoText_init : Stmt := inClass (top 6) 0
theorem sc_NoText_init : FnScope ["self", "text"] ["self", "text"] (defScope s_NoText_init) := ⟨rfl, rfl, rfl, by decide +kernel, rfl, by decide +kernel, by decide +kernel⟩

theorem ok_NoText_init {f : Addr} {fd : FuncData} (F : Fun K "__init__" "NoText.__init__" s_NoText_init f fd) (T : ErrC K C) (hno : PySem.W.findIn K (.ref C) "text" = some none) : FnOk P w K mg base CX0 1 f fd ["self", "text"] (spErr C "text") := by
  refine F.ok sc_NoText_init (fun vs H Q E h => ?_) (fun cdv A outer s H vs Q E hr h => ?_)
  · obtain ⟨a, v, rfl, _⟩ := h; rfl
  · obtain ⟨a, v, rfl, ha, q⟩ := h
    exact ⟨_, pss_one (ps_ost (pv 0) (pv 1)), _, rfl, _, rfl, a, C, rfl, T.oex, hno, .inl ⟨ha, fun dx n ne => q dx n ne⟩⟩
abbrev s_NoName_init : Stmt := inClass (top 7) 0
theorem sc_NoName_init : FnScope ["self", "name"] ["self", "name"] (defScope s_NoName_init) := ⟨rfl, rfl, rfl, by decide +kernel, rfl, by decide +kernel, by decide +kernel⟩

theorem ok_NoName_init {f : Addr} {fd : FuncData} (F : Fun K "__init__" "NoName.__init__" s_NoName_init f fd) (T : ErrC K C) (hno : PySem.W.findIn K (.ref C) "name" = some none) : FnOk P w K mg base CX0 1 f fd ["self", "name"] (spErr C "name") := by
  refine F.ok sc_NoName_init (fun vs H Q E h => ?_) (fun cdv A outer s H vs Q E hr h => ?_)
  · obtain ⟨a, v, rfl, _⟩ := h; rfl
  · obtain ⟨a, v, rfl, ha, q⟩ := h
    exact ⟨_, pss_one (ps_ost (pv 0) (pv 1)), _, rfl, _, rfl, a, C, rfl, T.oex, hno, .inl ⟨ha, fun dx n ne => q dx n ne⟩⟩
abbrev s_NoKind_init : Stmt := inClass (top 8) 0
theorem sc_NoKind_init : FnScope ["self", "kind"] ["self", "kind"] (defScope s_NoKind_init) := ⟨rfl, rfl, rfl, by decide +kernel, rfl, by decide +kernel, by decide +kernel⟩

theorem ok_NoKind_init {f : Addr} {fd : FuncData} (F : Fun K "__init__" "NoKind.__init__" s_NoKind_init f fd) (T : ErrC K C) (hno : PySem.W.findIn K (.ref C) "kind" = some none) : FnOk P w K mg base CX0 1 f fd ["self", "kind"] (spErr C "kind") := by
  refine F.ok sc_NoKind_init (fun vs H Q E h => ?_) (fun cdv A outer s H vs Q E hr h => ?_)
  · obtain ⟨a, v, rfl, _⟩ := h; rfl
  · obtain ⟨a, v, rfl, ha, q⟩ := h
    exact ⟨_, pss_one (ps_ost (pv 0) (pv 1)), _, rfl, _, rfl, a, C, rfl, T.oex, hno, .inl ⟨ha, fun dx n ne => q dx n ne⟩⟩
abbrev s_NoMost_init : Stmt := inClass (top 9) 0
theorem sc_NoMost_init : FnScope ["self", "most"] ["self", "most"] (defScope s_NoMost_init) := ⟨rfl, rfl, rfl, by decide +kernel, rfl, by decide +kernel, by decide +kernel⟩

theorem ok_NoMost_init {f : Addr} {fd : FuncData} (F : Fun K "__init__" "NoMost.__init__" s_NoMost_init f fd) (T : ErrC K C) (hno : PySem.W.findIn K (.ref C) "most" = some none) : FnOk P w K mg base CX0 1 f fd ["self", "most"] (spErr C "most") := by
  refine F.ok sc_NoMost_init (fun vs H Q E h => ?_) (fun cdv A outer s H vs Q E hr h => ?_)
  · obtain ⟨a, v, rfl, _⟩ := h; rfl
  · obtain ⟨a, v, rfl, ha, q⟩ := h
    exact ⟨_, pss_one (ps_ost (pv 0) (pv 1)), _, rfl, _, rfl, a, C, rfl, T.oex, hno, .inl ⟨ha, fun dx n ne => q dx n ne⟩⟩
abbrev s_TwoKinds_init : Stmt := inClass (top 10) 0
theorem sc_TwoKinds_init : FnScope ["self", "name"] ["self", "name"] (defScope s_TwoKinds_init) := ⟨rfl, rfl, rfl, by decide +kernel, rfl, by decide +kernel, by decide +kernel⟩

theorem ok_TwoKinds_init {f : Addr} {fd : FuncData} (F : Fun K "__init__" "TwoKinds.__init__" s_TwoKinds_init f fd) (T : ErrC K C) (hno : PySem.W.findIn K (.ref C) "name" = some none) : FnOk P w K mg base CX0 1 f fd ["self", "name"] (spErr C "name") := by
  refine F.ok sc_TwoKinds_init (fun vs H Q E h => ?_) (fun cdv A outer s H vs Q E hr h => ?_)
  · obtain ⟨a, v, rfl, _⟩ := h; rfl
  · obtain ⟨a, v, rfl, ha, q⟩ := h
    exact ⟨_, pss_one (ps_ost (pv 0) (pv 1)), _, rfl, _, rfl, a, C, rfl, T.oex, hno, .inl ⟨ha, fun dx n ne => q dx n ne⟩⟩
abbrev s_NoPart_init : Stmt := inClass (top 11) 0
theorem sc_NoPart_init : FnScope ["self", "part"] ["self", "part"] (defScope s_NoPart_init) := ⟨rfl, rfl, rfl, by decide +kernel, rfl, by decide +kernel, by decide +kernel⟩

theorem ok_NoPart_init {f : Addr} {fd : FuncData} (F : Fun K "__init__" "NoPart.__init__" s_NoPart_init f fd) (T : ErrC K C) (hno : PySem.W.findIn K (.ref C) "part" = some none) : FnOk P w K mg base CX0 1 f fd ["self", "part"] (spErr C "part") := by
  refine F.ok sc_NoPart_init (fun vs H Q E h => ?_) (fun cdv A outer s H vs Q E hr h => ?_)
  · obtain ⟨a, v, rfl, _⟩ := h; rfl
  · obtain ⟨a, v, rfl, ha, q⟩ := h
    exact ⟨_, pss_one (ps_ost (pv 0) (pv 1)), _, rfl, _, rfl, a, C, rfl, T.oex, hno, .inl ⟨ha, fun dx n ne => q dx n ne⟩⟩
abbrev s_Unfilled_init : Stmt := inClass (top 12) 0
theorem sc_Unfilled_init : FnScope ["self", "name"] ["self", "name"] (defScope s_Unfilled_init) := ⟨rfl, rfl, rfl, by decide +kernel, rfl, by decide +kernel, by decide +kernel⟩

theorem ok_Unfilled_init {f : Addr} {fd : FuncData} (F : Fun K "__init__" "Unfilled.__init__" s_Unfilled_init f fd) (T : ErrC K C) (hno : PySem.W.findIn K (.ref C) "name" = some none) : FnOk P w K mg base CX0 1 f fd ["self", "name"] (spErr C "name") := by
  refine F.ok sc_Unfilled_init (fun vs H Q E h => ?_) (fun cdv A outer s H vs Q E hr h => ?_)
  · obtain ⟨a, v, rfl, _⟩ := h; rfl
  · obtain ⟨a, v, rfl, ha, q⟩ := h
    exact ⟨_, pss_one (ps_ost (pv 0) (pv 1)), _, rfl, _, rfl, a, C, rfl, T.oex, hno, .inl ⟨ha, fun dx n ne => q dx n ne⟩⟩
abbrev s_WrongKind_init : Stmt := inClass (top 13) 0
theorem sc_WrongKind_init : FnScope ["self", "name"] ["self", "name"] (defScope s_WrongKind_init) := ⟨rfl, rfl, rfl, by decide +kernel, rfl, by decide +kernel, by decide +kernel⟩

theorem ok_WrongKind_init {f : Addr} {fd : FuncData} (F : Fun K "__init__" "WrongKind.__init__" s_WrongKind_init f fd) (T : ErrC K C) (hno : PySem.W.findIn K (.ref C) "name" = some none) : FnOk P w K mg base CX0 1 f fd ["self", "name"] (spErr C "name") := by
  refine F.ok sc_WrongKind_init (fun vs H Q E h => ?_) (fun cdv A outer s H vs Q E hr h => ?_)
  · obtain ⟨a, v, rfl, _⟩ := h; rfl
  · obtain ⟨a, v, rfl, ha, q⟩ := h
    exact ⟨_, pss_one (ps_ost (pv 0) (pv 1)), _, rfl, _, rfl, a, C, rfl, T.oex, hno, .inl ⟨ha, fun dx n ne => q dx n ne⟩⟩
abbrev s_NoValue_init : Stmt := inClass (top 15) 0
theorem sc_NoValue_init : FnScope ["self", "n"] ["self", "n"] (defScope s_NoValue_init) := ⟨rfl, rfl, rfl, by decide +kernel, rfl, by decide +kernel, by decide +kernel⟩

theorem ok_NoValue_init {f : Addr} {fd : FuncData} (F : Fun K "__init__" "NoValue.__init__" s_NoValue_init f fd) (T : ErrC K C) (hno : PySem.W.findIn K (.ref C) "n" = some none) : FnOk P w K mg base CX0 1 f fd ["self", "n"] (spErr C "n") := by
  refine F.ok sc_NoValue_init (fun vs H Q E h => ?_) (fun cdv A outer s H vs Q E hr h => ?_)
  · obtain ⟨a, v, rfl, _⟩ := h; rfl
  · obtain ⟨a, v, rfl, ha, q⟩ := h
    exact ⟨_, pss_one (ps_ost (pv 0) (pv 1)), _, rfl, _, rfl, a, C, rfl, T.oex, hno, .inl ⟨ha, fun dx n ne => q dx n ne⟩⟩
abbrev s_NoShare_init : Stmt := inClass (top 16) 0
theorem sc_NoShare_init : FnScope ["self", "name"] ["self", "name"] (defScope s_NoShare_init) := ⟨rfl, rfl, rfl, by decide +kernel, rfl, by decide +kernel, by decide +kernel⟩

theorem ok_NoShare_init {f : Addr} {fd : FuncData} (F : Fun K "__init__" "NoShare.__init__" s_NoShare_init f fd) (T : ErrC K C) (hno : PySem.W.findIn K (.ref C) "name" = some none) : FnOk P w K mg base CX0 1 f fd ["self", "name"] (spErr C "name") := by
  refine F.ok sc_NoShare_init (fun vs H Q E h => ?_) (fun cdv A outer s H vs Q E hr h => ?_)
  · obtain ⟨a, v, rfl, _⟩ := h; rfl
  · obtain ⟨a, v, rfl, ha, q⟩ := h
    exact ⟨_, pss_one (ps_ost (pv 0) (pv 1)), _, rfl, _, rfl, a, C, rfl, T.oex, hno, .inl ⟨ha, fun dx n ne => q dx n ne⟩⟩
abbrev s_NoSighting_init : Stmt := inClass (top 17) 0
theorem sc_NoSighting_init : FnScope ["self", "k"] ["self", "k"] (defScope s_NoSighting_init) := ⟨rfl, rfl, rfl, by decide +kernel, rfl, by decide +kernel, by decide +kernel⟩

theorem ok_NoSighting_init {f : Addr} {fd : FuncData} (F : Fun K "__init__" "NoSighting.__init__" s_NoSighting_init f fd) (T : ErrC K C) (hno : PySem.W.findIn K (.ref C) "k" = some none) : FnOk P w K mg base CX0 1 f fd ["self", "k"] (spErr C "k") := by
  refine F.ok sc_NoSighting_init (fun vs H Q E h => ?_) (fun cdv A outer s H vs Q E hr h => ?_)
  · obtain ⟨a, v, rfl, _⟩ := h; rfl
  · obtain ⟨a, v, rfl, ha, q⟩ := h
    exact ⟨_, pss_one (ps_ost (pv 0) (pv 1)), _, rfl, _, rfl, a, C, rfl, T.oex, hno, .inl ⟨ha, fun dx n ne => q dx n ne⟩⟩
abbrev s_NoHalves_init : Stmt := inClass (top 18) 0
theorem sc_NoHalves_init : FnScope ["self", "length"] ["self", "length"] (defScope s_NoHalves_init) := ⟨rfl, rfl, rfl, by decide +kernel, rfl, by decide +kernel, by decide +kernel⟩

theorem ok_NoHalves_init {f : Addr} {fd : FuncData} (F : Fun K "__init__" "NoHalves.__init__" s_NoHalves_init f fd) (T : ErrC K C) (hno : PySem.W.findIn K (.ref C) "length" = some none) : FnOk P w K mg base CX0 1 f fd ["self", "length"] (spErr C "length") := by
  refine F.ok sc_NoHalves_init (fun vs H Q E h => ?_) (fun cdv A outer s H vs Q E hr h => ?_)
  · obtain ⟨a, v, rfl, _⟩ := h; rfl
  · obtain ⟨a, v, rfl, ha, q⟩ := h
    exact ⟨_, pss_one (ps_ost (pv 0) (pv 1)), _, rfl, _, rfl, a, C, rfl, T.oex, hno, .inl ⟨ha, fun dx n ne => q dx n ne⟩⟩
end
/-! ### the seventeen classes by number -/
def fsT : List Str := ["size", "index", "place", "size", "text", "name", "kind", "most", "name", "part", "name", "name", "n", "name", "k", "length"]
abbrev fs (i : Nat) : Str := fsT.getD i "size"
def Er (H : Hp) (a C : Addr) (f : Str) (v : V) : Prop := ∃ d, H a = some (exo a C (some d)) ∧ H d = some (exd d [(f, v)])
theorem Er.mono {H H' : Hp} {a C : Addr} {f : Str} {v : V} (x : Er H a C f v) (s : Same H H') : Er H' a C f v := by
  obtain ⟨d, h1, h2⟩ := x
  exact ⟨d, s _ _ h1, s _ _ h2⟩
structure ErrT (K : PySem.W.Frag) (mg : Str → Option Value) (Cs : Nat → Addr) (CW : Addr) : Prop extends Blt mg where
  str : mg "str" = none
  ValueError : mg "ValueError" = none
  er : ∀ i, i < 17 → ErrC K (Cs i)
  hno : ∀ i, i < 16 → PySem.W.findIn K (.ref (Cs i)) (fs i) = some none
  kk : ∀ i, i < 17 → ∀ j, j < 17 → PySem.W.kitOne K (.ref (Cs i)) (.ref (Cs j)) = some (decide (j = i))
  kW : ∀ i, i < 17 → PySem.W.kitOne K (.ref (Cs i)) (.ref CW) = some true
  kV : ∀ i, i < 17 → PySem.W.kitOne K (.ref (Cs i)) (.type "ValueError") = some true
  g_NoSize : mg "NoSize" = some (.ref (Cs 0))
  g_NoRing : mg "NoRing" = some (.ref (Cs 1))
  g_NoPlace : mg "NoPlace" = some (.ref (Cs 2))
  g_WrongSize : mg "WrongSize" = some (.ref (Cs 3))
  g_NoText : mg "NoText" = some (.ref (Cs 4))
  g_NoName : mg "NoName" = some (.ref (Cs 5))
  g_NoKind : mg "NoKind" = some (.ref (Cs 6))
  g_NoMost : mg "NoMost" = some (.ref (Cs 7))
  g_TwoKinds : mg "TwoKinds" = some (.ref (Cs 8))
  g_NoPart : mg "NoPart" = some (.ref (Cs 9))
  g_Unfilled : mg "Unfilled" = some (.ref (Cs 10))
  g_WrongKind : mg "WrongKind" = some (.ref (Cs 11))
  g_NoValue : mg "NoValue" = some (.ref (Cs 12))
  g_NoShare : mg "NoShare" = some (.ref (Cs 13))
  g_NoSighting : mg "NoSighting" = some (.ref (Cs 14))
  g_NoHalves : mg "NoHalves" = some (.ref (Cs 15))
  g_NoQuot : mg "NoQuot" = some (.ref (Cs 16))
  g_WireError : mg "WireError" = some (.ref CW)
  q_NoQuot : PySem.W.excIn K (Cs 16) [.type "ValueError", .type "Exception", .type "BaseException", .type "object"] "ValueError.__new__" = true
  k_NoQuot : PySem.W.keepIn K (.ref (Cs 16)) = true
theorem ref_only {c : Addr} : ∀ u, RelV (V.ref c) u → u = Value.ref c := fun _ h => h
section
variable {P : Program} {w : World} {K : PySem.W.Frag} {mg : Str → Option Value} {base : Heap} {Cs : Nat → Addr} {CW : Addr}
/-- the error number k at a -/
def ErK (K : PySem.W.Frag) (Cs : Nat → Addr) (H : Hp) (a : Addr) (k : Nat) : Prop := ∃ d, H a = some (exo a (Cs k) d) ∧ ∀ dx, d = some dx → ∃ fs, H dx = some (exd dx fs)
theorem ErK.mono {H H' : Hp} {a : Addr} {k : Nat} (x : ErK K Cs H a k) (s : Same H H') : ErK K Cs H' a k := by
  obtain ⟨d, h1, h2⟩ := x
  refine ⟨d, s _ _ h1, fun dx e => ?_⟩
  obtain ⟨fs, h⟩ := h2 dx e
  exact ⟨fs, s _ _ h⟩
theorem rIs (T : ErrT K mg Cs CW) {H : Hp} {a : Addr} {k j : Nat} {Q : VK} (h : ErK K Cs H a k) (hk : k < 17) (hj : j < 17) (q : Q (.bl (decide (j = k))) H) : rIsX K [.ref a, .ref (Cs j)] H Q := by
  obtain ⟨d, h1, h2⟩ := h
  exact ⟨a, Cs k, d, _, _, _, rfl, (T.er k hk).kc, h1, h2, ref_only, T.kk k hk j hj, q⟩
/-! ### _law_kinds -/
abbrev s_l_kinds : Stmt := top 21
theorem sc_l_kinds : FnScope ["_law_error", "_law_first"] ["_law_error"] (defScope s_l_kinds) := ⟨rfl, rfl, rfl, by decide +kernel, rfl, by decide +kernel, by decide +kernel⟩

def spKinds (K : PySem.W.Frag) (Cs : Nat → Addr) : Sp := fun vs H Q _ => ∃ (a : Addr) (k : Nat), vs = [.ref a] ∧ ErK K Cs H a k ∧ k < 17 ∧ ∀ (o : Addr) (H' : Hp), Same H H' → H o = none → H' o = some (.lst ((List.range 17).map fun j => V.bl (decide (j = k)))) → Q (.ref o) H'
theorem ok_kinds {f : Addr} {fd : FuncData} (F : Fun K "_law_kinds" "_law_kinds" s_l_kinds f fd) (T : ErrT K mg Cs CW) : FnOk P w K mg base CX0 1 f fd ["_law_error"] (spKinds K Cs) := by
  refine F.ok sc_l_kinds (fun vs H Q E h => ?_) (fun cdv A outer s H vs Q E hr h => ?_)
  · obtain ⟨a, k, rfl, _⟩ := h; rfl
  · obtain ⟨a, k, rfl, hE, hk, q⟩ := h
    refine ⟨_, (pss_cons (ps_set (i := 1) sc_l_kinds.nd rfl (.inl rfl) (pe_lst (pa_cons (pe_callB call_isX (by rfl) T.isinstance (by decide +kernel) (pa_cons (pv 0) (pa_cons (pe_glob (v := .ref _) rfl T.g_NoSize rfl) pa_nil))) (pa_cons (pe_callB call_isX (by rfl) T.isinstance (by decide +kernel) (pa_cons (pv 0) (pa_cons (pe_glob (v := .ref _) rfl T.g_NoRing rfl) pa_nil))) (pa_cons (pe_callB call_isX (by rfl) T.isinstance (by decide +kernel) (pa_cons (pv 0) (pa_cons (pe_glob (v := .ref _) rfl T.g_NoPlace rfl) pa_nil))) pa_nil)))))
    (pss_cons (ps_set (i := 1) sc_l_kinds.nd rfl (.inl rfl) (pe_op op_cat (pv 1) (pe_lst (pa_cons (pe_callB call_isX (by rfl) T.isinstance (by decide +kernel) (pa_cons (pv 0) (pa_cons (pe_glob (v := .ref _) rfl T.g_WrongSize rfl) pa_nil))) (pa_cons (pe_callB call_isX (by rfl) T.isinstance (by decide +kernel) (pa_cons (pv 0) (pa_cons (pe_glob (v := .ref _) rfl T.g_NoText rfl) pa_nil))) (pa_cons (pe_callB call_isX (by rfl) T.isinstance (by decide +kernel) (pa_cons (pv 0) (pa_cons (pe_glob (v := .ref _) rfl T.g_NoName rfl) pa_nil))) pa_nil))))))
    (pss_cons (ps_set (i := 1) sc_l_kinds.nd rfl (.inl rfl) (pe_op op_cat (pv 1) (pe_lst (pa_cons (pe_callB call_isX (by rfl) T.isinstance (by decide +kernel) (pa_cons (pv 0) (pa_cons (pe_glob (v := .ref _) rfl T.g_NoKind rfl) pa_nil))) (pa_cons (pe_callB call_isX (by rfl) T.isinstance (by decide +kernel) (pa_cons (pv 0) (pa_cons (pe_glob (v := .ref _) rfl T.g_NoMost rfl) pa_nil))) (pa_cons (pe_callB call_isX (by rfl) T.isinstance (by decide +kernel) (pa_cons (pv 0) (pa_cons (pe_glob (v := .ref _) rfl T.g_TwoKinds rfl) pa_nil))) pa_nil))))))
    (pss_cons (ps_set (i := 1) sc_l_kinds.nd rfl (.inl rfl) (pe_op op_cat (pv 1) (pe_lst (pa_cons (pe_callB call_isX (by rfl) T.isinstance (by decide +kernel) (pa_cons (pv 0) (pa_cons (pe_glob (v := .ref _) rfl T.g_NoPart rfl) pa_nil))) (pa_cons (pe_callB call_isX (by rfl) T.isinstance (by decide +kernel) (pa_cons (pv 0) (pa_cons (pe_glob (v := .ref _) rfl T.g_Unfilled rfl) pa_nil))) (pa_cons (pe_callB call_isX (by rfl) T.isinstance (by decide +kernel) (pa_cons (pv 0) (pa_cons (pe_glob (v := .ref _) rfl T.g_WrongKind rfl) pa_nil))) pa_nil))))))
    (pss_cons (ps_set (i := 1) sc_l_kinds.nd rfl (.inl rfl) (pe_op op_cat (pv 1) (pe_lst (pa_cons (pe_callB call_isX (by rfl) T.isinstance (by decide +kernel) (pa_cons (pv 0) (pa_cons (pe_glob (v := .ref _) rfl T.g_NoValue rfl) pa_nil))) (pa_cons (pe_callB call_isX (by rfl) T.isinstance (by decide +kernel) (pa_cons (pv 0) (pa_cons (pe_glob (v := .ref _) rfl T.g_NoShare rfl) pa_nil))) (pa_cons (pe_callB call_isX (by rfl) T.isinstance (by decide +kernel) (pa_cons (pv 0) (pa_cons (pe_glob (v := .ref _) rfl T.g_NoSighting rfl) pa_nil))) pa_nil))))))
    (pss_one (ps_ret (pe_op op_cat (pv 1) (pe_lst (pa_cons (pe_callB call_isX (by rfl) T.isinstance (by decide +kernel) (pa_cons (pv 0) (pa_cons (pe_glob (v := .ref _) rfl T.g_NoHalves rfl) pa_nil))) (pa_cons (pe_callB call_isX (by rfl) T.isinstance (by decide +kernel) (pa_cons (pv 0) (pa_cons (pe_glob (v := .ref _) rfl T.g_NoQuot rfl) pa_nil))) pa_nil))))))))))), ?_⟩
    have TK := (T.er k hk).kc
    obtain ⟨d, h1, h2⟩ := id hE
    refine ⟨_, rfl, a, Cs k, d, _, _, _, rfl, TK, h1, h2, ref_only, T.kk k hk 0 (by decide), ?_⟩
    refine ⟨_, rfl, a, Cs k, d, _, _, _, rfl, TK, h1, h2, ref_only, T.kk k hk 1 (by decide), ?_⟩
    refine ⟨_, rfl, a, Cs k, d, _, _, _, rfl, TK, h1, h2, ref_only, T.kk k hk 2 (by decide), ?_⟩
    refine ⟨by show 3 ≤ sizeLine; decide, fun p0 n0 => ?_⟩
    refine ⟨_, rfl, ?_⟩
    refine ⟨_, rfl, a, Cs k, d, _, _, _, rfl, TK, ((same_upd n0) _ _ h1), (fun dx e => by obtain ⟨fs, z⟩ := h2 dx e; exact ⟨fs, (same_upd n0) _ _ z⟩), ref_only, T.kk k hk 3 (by decide), ?_⟩
    refine ⟨_, rfl, a, Cs k, d, _, _, _, rfl, TK, ((same_upd n0) _ _ h1), (fun dx e => by obtain ⟨fs, z⟩ := h2 dx e; exact ⟨fs, (same_upd n0) _ _ z⟩), ref_only, T.kk k hk 4 (by decide), ?_⟩
    refine ⟨_, rfl, a, Cs k, d, _, _, _, rfl, TK, ((same_upd n0) _ _ h1), (fun dx e => by obtain ⟨fs, z⟩ := h2 dx e; exact ⟨fs, (same_upd n0) _ _ z⟩), ref_only, T.kk k hk 5 (by decide), ?_⟩
    refine ⟨by show 3 ≤ sizeLine; decide, fun r1 m1 => ?_⟩
    refine ⟨_, _, _, _, rfl, rfl, same_upd m1 _ _ upd_same, upd_same, by show 3 + 3 ≤ sizeLine; decide, fun p1 n1 => ?_⟩
    refine ⟨_, rfl, ?_⟩
    refine ⟨_, rfl, a, Cs k, d, _, _, _, rfl, TK, ((Same.trans (same_upd n0) (Same.trans (same_upd m1) (same_upd n1))) _ _ h1), (fun dx e => by obtain ⟨fs, z⟩ := h2 dx e; exact ⟨fs, (Same.trans (same_upd n0) (Same.trans (same_upd m1) (same_upd n1))) _ _ z⟩), ref_only, T.kk k hk 6 (by decide), ?_⟩
    refine ⟨_, rfl, a, Cs k, d, _, _, _, rfl, TK, ((Same.trans (same_upd n0) (Same.trans (same_upd m1) (same_upd n1))) _ _ h1), (fun dx e => by obtain ⟨fs, z⟩ := h2 dx e; exact ⟨fs, (Same.trans (same_upd n0) (Same.trans (same_upd m1) (same_upd n1))) _ _ z⟩), ref_only, T.kk k hk 7 (by decide), ?_⟩
    refine ⟨_, rfl, a, Cs k, d, _, _, _, rfl, TK, ((Same.trans (same_upd n0) (Same.trans (same_upd m1) (same_upd n1))) _ _ h1), (fun dx e => by obtain ⟨fs, z⟩ := h2 dx e; exact ⟨fs, (Same.trans (same_upd n0) (Same.trans (same_upd m1) (same_upd n1))) _ _ z⟩), ref_only, T.kk k hk 8 (by decide), ?_⟩
    refine ⟨by show 3 ≤ sizeLine; decide, fun r2 m2 => ?_⟩
    refine ⟨_, _, _, _, rfl, rfl, same_upd m2 _ _ upd_same, upd_same, by show 6 + 3 ≤ sizeLine; decide, fun p2 n2 => ?_⟩
    refine ⟨_, rfl, ?_⟩
    refine ⟨_, rfl, a, Cs k, d, _, _, _, rfl, TK, ((Same.trans (Same.trans (same_upd n0) (Same.trans (same_upd m1) (same_upd n1))) (Same.trans (same_upd m2) (same_upd n2))) _ _ h1), (fun dx e => by obtain ⟨fs, z⟩ := h2 dx e; exact ⟨fs, (Same.trans (Same.trans (same_upd n0) (Same.trans (same_upd m1) (same_upd n1))) (Same.trans (same_upd m2) (same_upd n2))) _ _ z⟩), ref_only, T.kk k hk 9 (by decide), ?_⟩
    refine ⟨_, rfl, a, Cs k, d, _, _, _, rfl, TK, ((Same.trans (Same.trans (same_upd n0) (Same.trans (same_upd m1) (same_upd n1))) (Same.trans (same_upd m2) (same_upd n2))) _ _ h1), (fun dx e => by obtain ⟨fs, z⟩ := h2 dx e; exact ⟨fs, (Same.trans (Same.trans (same_upd n0) (Same.trans (same_upd m1) (same_upd n1))) (Same.trans (same_upd m2) (same_upd n2))) _ _ z⟩), ref_only, T.kk k hk 10 (by decide), ?_⟩
    refine ⟨_, rfl, a, Cs k, d, _, _, _, rfl, TK, ((Same.trans (Same.trans (same_upd n0) (Same.trans (same_upd m1) (same_upd n1))) (Same.trans (same_upd m2) (same_upd n2))) _ _ h1), (fun dx e => by obtain ⟨fs, z⟩ := h2 dx e; exact ⟨fs, (Same.trans (Same.trans (same_upd n0) (Same.trans (same_upd m1) (same_upd n1))) (Same.trans (same_upd m2) (same_upd n2))) _ _ z⟩), ref_only, T.kk k hk 11 (by decide), ?_⟩
    refine ⟨by show 3 ≤ sizeLine; decide, fun r3 m3 => ?_⟩
    refine ⟨_, _, _, _, rfl, rfl, same_upd m3 _ _ upd_same, upd_same, by show 9 + 3 ≤ sizeLine; decide, fun p3 n3 => ?_⟩
    refine ⟨_, rfl, ?_⟩
    refine ⟨_, rfl, a, Cs k, d, _, _, _, rfl, TK, ((Same.trans (Same.trans (Same.trans (same_upd n0) (Same.trans (same_upd m1) (same_upd n1))) (Same.trans (same_upd m2) (same_upd n2))) (Same.trans (same_upd m3) (same_upd n3))) _ _ h1), (fun dx e => by obtain ⟨fs, z⟩ := h2 dx e; exact ⟨fs, (Same.trans (Same.trans (Same.trans (same_upd n0) (Same.trans (same_upd m1) (same_upd n1))) (Same.trans (same_upd m2) (same_upd n2))) (Same.trans (same_upd m3) (same_upd n3))) _ _ z⟩), ref_only, T.kk k hk 12 (by decide), ?_⟩
    refine ⟨_, rfl, a, Cs k, d, _, _, _, rfl, TK, ((Same.trans (Same.trans (Same.trans (same_upd n0) (Same.trans (same_upd m1) (same_upd n1))) (Same.trans (same_upd m2) (same_upd n2))) (Same.trans (same_upd m3) (same_upd n3))) _ _ h1), (fun dx e => by obtain ⟨fs, z⟩ := h2 dx e; exact ⟨fs, (Same.trans (Same.trans (Same.trans (same_upd n0) (Same.trans (same_upd m1) (same_upd n1))) (Same.trans (same_upd m2) (same_upd n2))) (Same.trans (same_upd m3) (same_upd n3))) _ _ z⟩), ref_only, T.kk k hk 13 (by decide), ?_⟩
    refine ⟨_, rfl, a, Cs k, d, _, _, _, rfl, TK, ((Same.trans (Same.trans (Same.trans (same_upd n0) (Same.trans (same_upd m1) (same_upd n1))) (Same.trans (same_upd m2) (same_upd n2))) (Same.trans (same_upd m3) (same_upd n3))) _ _ h1), (fun dx e => by obtain ⟨fs, z⟩ := h2 dx e; exact ⟨fs, (Same.trans (Same.trans (Same.trans (same_upd n0) (Same.trans (same_upd m1) (same_upd n1))) (Same.trans (same_upd m2) (same_upd n2))) (Same.trans (same_upd m3) (same_upd n3))) _ _ z⟩), ref_only, T.kk k hk 14 (by decide), ?_⟩
    refine ⟨by show 3 ≤ sizeLine; decide, fun r4 m4 => ?_⟩
    refine ⟨_, _, _, _, rfl, rfl, same_upd m4 _ _ upd_same, upd_same, by show 12 + 3 ≤ sizeLine; decide, fun p4 n4 => ?_⟩
    refine ⟨_, rfl, ?_⟩
    refine ⟨_, rfl, a, Cs k, d, _, _, _, rfl, TK, ((Same.trans (Same.trans (Same.trans (Same.trans (same_upd n0) (Same.trans (same_upd m1) (same_upd n1))) (Same.trans (same_upd m2) (same_upd n2))) (Same.trans (same_upd m3) (same_upd n3))) (Same.trans (same_upd m4) (same_upd n4))) _ _ h1), (fun dx e => by obtain ⟨fs, z⟩ := h2 dx e; exact ⟨fs, (Same.trans (Same.trans (Same.trans (Same.trans (same_upd n0) (Same.trans (same_upd m1) (same_upd n1))) (Same.trans (same_upd m2) (same_upd n2))) (Same.trans (same_upd m3) (same_upd n3))) (Same.trans (same_upd m4) (same_upd n4))) _ _ z⟩), ref_only, T.kk k hk 15 (by decide), ?_⟩
    refine ⟨_, rfl, a, Cs k, d, _, _, _, rfl, TK, ((Same.trans (Same.trans (Same.trans (Same.trans (same_upd n0) (Same.trans (same_upd m1) (same_upd n1))) (Same.trans (same_upd m2) (same_upd n2))) (Same.trans (same_upd m3) (same_upd n3))) (Same.trans (same_upd m4) (same_upd n4))) _ _ h1), (fun dx e => by obtain ⟨fs, z⟩ := h2 dx e; exact ⟨fs, (Same.trans (Same.trans (Same.trans (Same.trans (same_upd n0) (Same.trans (same_upd m1) (same_upd n1))) (Same.trans (same_upd m2) (same_upd n2))) (Same.trans (same_upd m3) (same_upd n3))) (Same.trans (same_upd m4) (same_upd n4))) _ _ z⟩), ref_only, T.kk k hk 16 (by decide), ?_⟩
    refine ⟨by show 2 ≤ sizeLine; decide, fun r5 m5 => ?_⟩
    refine ⟨_, _, _, _, rfl, rfl, same_upd m5 _ _ upd_same, upd_same, by show 15 + 2 ≤ sizeLine; decide, fun p5 n5 => ?_⟩
    exact q p5 _ (Same.trans (Same.trans (Same.trans (Same.trans (Same.trans (same_upd n0) (Same.trans (same_upd m1) (same_upd n1))) (Same.trans (same_upd m2) (same_upd n2))) (Same.trans (same_upd m3) (same_upd n3))) (Same.trans (same_upd m4) (same_upd n4))) (Same.trans (same_upd m5) (same_upd n5))) ((Same.trans (Same.trans (Same.trans (Same.trans (Same.trans (same_upd n0) (Same.trans (same_upd m1) (same_upd n1))) (Same.trans (same_upd m2) (same_upd n2))) (Same.trans (same_upd m3) (same_upd n3))) (Same.trans (same_upd m4) (same_upd n4))) (same_upd m5)).free n5) upd_same
/-! ### _law_made -/
abbrev s_l_made : Stmt := top 22
theorem sc_l_made : FnScope ["_law_number", "_law_errors"] ["_law_number"] (defScope s_l_made) := ⟨rfl, rfl, rfl, by decide +kernel, rfl, by decide +kernel, by decide +kernel⟩

def spMade (Cs : Nat → Addr) : Sp := fun vs H Q _ => ∃ (v : V), vs = [v] ∧ ∀ (as : Nat → Addr) (o : Addr) (H' : Hp), Same H H' → H o = none → H' o = some (.lst ((List.range 16).map fun i => V.ref (as i))) → (∀ i, i < 16 → Er H' (as i) (Cs i) (fs i) v) → Q (.ref o) H'
theorem ok_made {f : Addr} {fd : FuncData} (F : Fun K "_law_made" "_law_made" s_l_made f fd) (T : ErrT K mg Cs CW)
    (D_NoSize : ErrOk P w K mg base CX0 1 (Cs 0) "NoSize" "size" "size")
    (D_NoRing : ErrOk P w K mg base CX0 1 (Cs 1) "NoRing" "index" "index")
    (D_NoPlace : ErrOk P w K mg base CX0 1 (Cs 2) "NoPlace" "place" "place")
    (D_WrongSize : ErrOk P w K mg base CX0 1 (Cs 3) "WrongSize" "size" "size")
    (D_NoText : ErrOk P w K mg base CX0 1 (Cs 4) "NoText" "text" "text")
    (D_NoName : ErrOk P w K mg base CX0 1 (Cs 5) "NoName" "name" "name")
    (D_NoKind : ErrOk P w K mg base CX0 1 (Cs 6) "NoKind" "kind" "kind")
    (D_NoMost : ErrOk P w K mg base CX0 1 (Cs 7) "NoMost" "most" "most")
    (D_TwoKinds : ErrOk P w K mg base CX0 1 (Cs 8) "TwoKinds" "name" "name")
    (D_NoPart : ErrOk P w K mg base CX0 1 (Cs 9) "NoPart" "part" "part")
    (D_Unfilled : ErrOk P w K mg base CX0 1 (Cs 10) "Unfilled" "name" "name")
    (D_WrongKind : ErrOk P w K mg base CX0 1 (Cs 11) "WrongKind" "name" "name")
    (D_NoValue : ErrOk P w K mg base CX0 1 (Cs 12) "NoValue" "n" "n")
    (D_NoShare : ErrOk P w K mg base CX0 1 (Cs 13) "NoShare" "name" "name")
    (D_NoSighting : ErrOk P w K mg base CX0 1 (Cs 14) "NoSighting" "k" "k")
    (D_NoHalves : ErrOk P w K mg base CX0 1 (Cs 15) "NoHalves" "length" "length")
    : FnOk P w K mg base CX0 3 f fd ["_law_number"] (spMade Cs) := by
  refine F.ok sc_l_made (fun vs H Q E h => ?_) (fun cdv A outer s H vs Q E hr h => ?_)
  · obtain ⟨v, rfl, _⟩ := h; rfl
  · obtain ⟨v, rfl, q⟩ := h
    refine ⟨_, (pss_cons (ps_set (i := 1) sc_l_made.nd rfl (.inl rfl) (pe_lst (pa_cons (pe_err D_NoSize hr pass0 (pv 0)) (pa_cons (pe_err D_NoRing hr pass0 (pv 0)) (pa_cons (pe_err D_NoPlace hr pass0 (pv 0)) (pa_cons (pe_err D_WrongSize hr pass0 (pv 0)) (pa_cons (pe_err D_NoText hr pass0 (pv 0)) pa_nil)))))))
    (pss_cons (ps_set (i := 1) sc_l_made.nd rfl (.inl rfl) (pe_op op_cat (pv 1) (pe_lst (pa_cons (pe_err D_NoName hr pass0 (pv 0)) (pa_cons (pe_err D_NoKind hr pass0 (pv 0)) (pa_cons (pe_err D_NoMost hr pass0 (pv 0)) (pa_cons (pe_err D_TwoKinds hr pass0 (pv 0)) (pa_cons (pe_err D_NoPart hr pass0 (pv 0)) pa_nil))))))))
    (pss_cons (ps_set (i := 1) sc_l_made.nd rfl (.inl rfl) (pe_op op_cat (pv 1) (pe_lst (pa_cons (pe_err D_Unfilled hr pass0 (pv 0)) (pa_cons (pe_err D_WrongKind hr pass0 (pv 0)) (pa_cons (pe_err D_NoValue hr pass0 (pv 0)) (pa_cons (pe_err D_NoShare hr pass0 (pv 0)) pa_nil)))))))
    (pss_one (ps_ret (pe_op op_cat (pv 1) (pe_lst (pa_cons (pe_err D_NoSighting hr pass0 (pv 0)) (pa_cons (pe_err D_NoHalves hr pass0 (pv 0)) pa_nil))))))))), ?_⟩
    refine ⟨_, rfl, fun a0 d0 H0 s0 na0 nd0 ha0 hd0 => ?_⟩
    refine ⟨_, rfl, fun a1 d1 H1 s1 na1 nd1 ha1 hd1 => ?_⟩
    refine ⟨_, rfl, fun a2 d2 H2 s2 na2 nd2 ha2 hd2 => ?_⟩
    refine ⟨_, rfl, fun a3 d3 H3 s3 na3 nd3 ha3 hd3 => ?_⟩
    refine ⟨_, rfl, fun a4 d4 H4 s4 na4 nd4 ha4 hd4 => ?_⟩
    refine ⟨by show 5 ≤ sizeLine; decide, fun r0 m0 => ?_⟩
    refine ⟨_, rfl, ?_⟩
    refine ⟨_, rfl, fun a5 d5 H5 s5 na5 nd5 ha5 hd5 => ?_⟩
    refine ⟨_, rfl, fun a6 d6 H6 s6 na6 nd6 ha6 hd6 => ?_⟩
    refine ⟨_, rfl, fun a7 d7 H7 s7 na7 nd7 ha7 hd7 => ?_⟩
    refine ⟨_, rfl, fun a8 d8 H8 s8 na8 nd8 ha8 hd8 => ?_⟩
    refine ⟨_, rfl, fun a9 d9 H9 s9 na9 nd9 ha9 hd9 => ?_⟩
    refine ⟨by show 5 ≤ sizeLine; decide, fun r1 m1 => ?_⟩
    refine ⟨_, _, _, _, rfl, rfl, (Same.trans (Same.trans (Same.trans (Same.trans (Same.trans s5 s6) s7) s8) s9) (same_upd m1)) _ _ upd_same, upd_same, by show 5 + 5 ≤ sizeLine; decide, fun p1 n1 => ?_⟩
    refine ⟨_, rfl, ?_⟩
    refine ⟨_, rfl, fun a10 d10 H10 s10 na10 nd10 ha10 hd10 => ?_⟩
    refine ⟨_, rfl, fun a11 d11 H11 s11 na11 nd11 ha11 hd11 => ?_⟩
    refine ⟨_, rfl, fun a12 d12 H12 s12 na12 nd12 ha12 hd12 => ?_⟩
    refine ⟨_, rfl, fun a13 d13 H13 s13 na13 nd13 ha13 hd13 => ?_⟩
    refine ⟨by show 4 ≤ sizeLine; decide, fun r2 m2 => ?_⟩
    refine ⟨_, _, _, _, rfl, rfl, (Same.trans (Same.trans (Same.trans (Same.trans s10 s11) s12) s13) (same_upd m2)) _ _ upd_same, upd_same, by show 10 + 4 ≤ sizeLine; decide, fun p2 n2 => ?_⟩
    refine ⟨_, rfl, ?_⟩
    refine ⟨_, rfl, fun a14 d14 H14 s14 na14 nd14 ha14 hd14 => ?_⟩
    refine ⟨_, rfl, fun a15 d15 H15 s15 na15 nd15 ha15 hd15 => ?_⟩
    refine ⟨by show 2 ≤ sizeLine; decide, fun r3 m3 => ?_⟩
    refine ⟨_, _, _, _, rfl, rfl, (Same.trans (Same.trans s14 s15) (same_upd m3)) _ _ upd_same, upd_same, by show 14 + 2 ≤ sizeLine; decide, fun p3 n3 => ?_⟩
    refine q (fun i => List.getD [a0, a1, a2, a3, a4, a5, a6, a7, a8, a9, a10, a11, a12, a13, a14, a15] i 0) p3 _ (Same.trans s0 (Same.trans s1 (Same.trans s2 (Same.trans s3 (Same.trans s4 (Same.trans (same_upd m0) (Same.trans s5 (Same.trans s6 (Same.trans s7 (Same.trans s8 (Same.trans s9 (Same.trans (same_upd m1) (Same.trans (same_upd n1) (Same.trans s10 (Same.trans s11 (Same.trans s12 (Same.trans s13 (Same.trans (same_upd m2) (Same.trans (same_upd n2) (Same.trans s14 (Same.trans s15 (Same.trans (same_upd m3) (same_upd n3))))))))))))))))))))))) ((Same.trans s0 (Same.trans s1 (Same.trans s2 (Same.trans s3 (Same.trans s4 (Same.trans (same_upd m0) (Same.trans s5 (Same.trans s6 (Same.trans s7 (Same.trans s8 (Same.trans s9 (Same.trans (same_upd m1) (Same.trans (same_upd n1) (Same.trans s10 (Same.trans s11 (Same.trans s12 (Same.trans s13 (Same.trans (same_upd m2) (Same.trans (same_upd n2) (Same.trans s14 (Same.trans s15 (same_upd m3)))))))))))))))))))))).free n3) upd_same fun i hi => ?_
    match i, hi with
    | 0, _ => exact ⟨d0, (Same.trans s1 (Same.trans s2 (Same.trans s3 (Same.trans s4 (Same.trans (same_upd m0) (Same.trans s5 (Same.trans s6 (Same.trans s7 (Same.trans s8 (Same.trans s9 (Same.trans (same_upd m1) (Same.trans (same_upd n1) (Same.trans s10 (Same.trans s11 (Same.trans s12 (Same.trans s13 (Same.trans (same_upd m2) (Same.trans (same_upd n2) (Same.trans s14 (Same.trans s15 (Same.trans (same_upd m3) (same_upd n3)))))))))))))))))))))) _ _ ha0, (Same.trans s1 (Same.trans s2 (Same.trans s3 (Same.trans s4 (Same.trans (same_upd m0) (Same.trans s5 (Same.trans s6 (Same.trans s7 (Same.trans s8 (Same.trans s9 (Same.trans (same_upd m1) (Same.trans (same_upd n1) (Same.trans s10 (Same.trans s11 (Same.trans s12 (Same.trans s13 (Same.trans (same_upd m2) (Same.trans (same_upd n2) (Same.trans s14 (Same.trans s15 (Same.trans (same_upd m3) (same_upd n3)))))))))))))))))))))) _ _ hd0⟩
    | 1, _ => exact ⟨d1, (Same.trans s2 (Same.trans s3 (Same.trans s4 (Same.trans (same_upd m0) (Same.trans s5 (Same.trans s6 (Same.trans s7 (Same.trans s8 (Same.trans s9 (Same.trans (same_upd m1) (Same.trans (same_upd n1) (Same.trans s10 (Same.trans s11 (Same.trans s12 (Same.trans s13 (Same.trans (same_upd m2) (Same.trans (same_upd n2) (Same.trans s14 (Same.trans s15 (Same.trans (same_upd m3) (same_upd n3))))))))))))))))))))) _ _ ha1, (Same.trans s2 (Same.trans s3 (Same.trans s4 (Same.trans (same_upd m0) (Same.trans s5 (Same.trans s6 (Same.trans s7 (Same.trans s8 (Same.trans s9 (Same.trans (same_upd m1) (Same.trans (same_upd n1) (Same.trans s10 (Same.trans s11 (Same.trans s12 (Same.trans s13 (Same.trans (same_upd m2) (Same.trans (same_upd n2) (Same.trans s14 (Same.trans s15 (Same.trans (same_upd m3) (same_upd n3))))))))))))))))))))) _ _ hd1⟩
    | 2, _ => exact ⟨d2, (Same.trans s3 (Same.trans s4 (Same.trans (same_upd m0) (Same.trans s5 (Same.trans s6 (Same.trans s7 (Same.trans s8 (Same.trans s9 (Same.trans (same_upd m1) (Same.trans (same_upd n1) (Same.trans s10 (Same.trans s11 (Same.trans s12 (Same.trans s13 (Same.trans (same_upd m2) (Same.trans (same_upd n2) (Same.trans s14 (Same.trans s15 (Same.trans (same_upd m3) (same_upd n3)))))))))))))))))))) _ _ ha2, (Same.trans s3 (Same.trans s4 (Same.trans (same_upd m0) (Same.trans s5 (Same.trans s6 (Same.trans s7 (Same.trans s8 (Same.trans s9 (Same.trans (same_upd m1) (Same.trans (same_upd n1) (Same.trans s10 (Same.trans s11 (Same.trans s12 (Same.trans s13 (Same.trans (same_upd m2) (Same.trans (same_upd n2) (Same.trans s14 (Same.trans s15 (Same.trans (same_upd m3) (same_upd n3)))))))))))))))))))) _ _ hd2⟩
    | 3, _ => exact ⟨d3, (Same.trans s4 (Same.trans (same_upd m0) (Same.trans s5 (Same.trans s6 (Same.trans s7 (Same.trans s8 (Same.trans s9 (Same.trans (same_upd m1) (Same.trans (same_upd n1) (Same.trans s10 (Same.trans s11 (Same.trans s12 (Same.trans s13 (Same.trans (same_upd m2) (Same.trans (same_upd n2) (Same.trans s14 (Same.trans s15 (Same.trans (same_upd m3) (same_upd n3))))))))))))))))))) _ _ ha3, (Same.trans s4 (Same.trans (same_upd m0) (Same.trans s5 (Same.trans s6 (Same.trans s7 (Same.trans s8 (Same.trans s9 (Same.trans (same_upd m1) (Same.trans (same_upd n1) (Same.trans s10 (Same.trans s11 (Same.trans s12 (Same.trans s13 (Same.trans (same_upd m2) (Same.trans (same_upd n2) (Same.trans s14 (Same.trans s15 (Same.trans (same_upd m3) (same_upd n3))))))))))))))))))) _ _ hd3⟩
    | 4, _ => exact ⟨d4, (Same.trans (same_upd m0) (Same.trans s5 (Same.trans s6 (Same.trans s7 (Same.trans s8 (Same.trans s9 (Same.trans (same_upd m1) (Same.trans (same_upd n1) (Same.trans s10 (Same.trans s11 (Same.trans s12 (Same.trans s13 (Same.trans (same_upd m2) (Same.trans (same_upd n2) (Same.trans s14 (Same.trans s15 (Same.trans (same_upd m3) (same_upd n3)))))))))))))))))) _ _ ha4, (Same.trans (same_upd m0) (Same.trans s5 (Same.trans s6 (Same.trans s7 (Same.trans s8 (Same.trans s9 (Same.trans (same_upd m1) (Same.trans (same_upd n1) (Same.trans s10 (Same.trans s11 (Same.trans s12 (Same.trans s13 (Same.trans (same_upd m2) (Same.trans (same_upd n2) (Same.trans s14 (Same.trans s15 (Same.trans (same_upd m3) (same_upd n3)))))))))))))))))) _ _ hd4⟩
    | 5, _ => exact ⟨d5, (Same.trans s6 (Same.trans s7 (Same.trans s8 (Same.trans s9 (Same.trans (same_upd m1) (Same.trans (same_upd n1) (Same.trans s10 (Same.trans s11 (Same.trans s12 (Same.trans s13 (Same.trans (same_upd m2) (Same.trans (same_upd n2) (Same.trans s14 (Same.trans s15 (Same.trans (same_upd m3) (same_upd n3)))))))))))))))) _ _ ha5, (Same.trans s6 (Same.trans s7 (Same.trans s8 (Same.trans s9 (Same.trans (same_upd m1) (Same.trans (same_upd n1) (Same.trans s10 (Same.trans s11 (Same.trans s12 (Same.trans s13 (Same.trans (same_upd m2) (Same.trans (same_upd n2) (Same.trans s14 (Same.trans s15 (Same.trans (same_upd m3) (same_upd n3)))))))))))))))) _ _ hd5⟩
    | 6, _ => exact ⟨d6, (Same.trans s7 (Same.trans s8 (Same.trans s9 (Same.trans (same_upd m1) (Same.trans (same_upd n1) (Same.trans s10 (Same.trans s11 (Same.trans s12 (Same.trans s13 (Same.trans (same_upd m2) (Same.trans (same_upd n2) (Same.trans s14 (Same.trans s15 (Same.trans (same_upd m3) (same_upd n3))))))))))))))) _ _ ha6, (Same.trans s7 (Same.trans s8 (Same.trans s9 (Same.trans (same_upd m1) (Same.trans (same_upd n1) (Same.trans s10 (Same.trans s11 (Same.trans s12 (Same.trans s13 (Same.trans (same_upd m2) (Same.trans (same_upd n2) (Same.trans s14 (Same.trans s15 (Same.trans (same_upd m3) (same_upd n3))))))))))))))) _ _ hd6⟩
    | 7, _ => exact ⟨d7, (Same.trans s8 (Same.trans s9 (Same.trans (same_upd m1) (Same.trans (same_upd n1) (Same.trans s10 (Same.trans s11 (Same.trans s12 (Same.trans s13 (Same.trans (same_upd m2) (Same.trans (same_upd n2) (Same.trans s14 (Same.trans s15 (Same.trans (same_upd m3) (same_upd n3)))))))))))))) _ _ ha7, (Same.trans s8 (Same.trans s9 (Same.trans (same_upd m1) (Same.trans (same_upd n1) (Same.trans s10 (Same.trans s11 (Same.trans s12 (Same.trans s13 (Same.trans (same_upd m2) (Same.trans (same_upd n2) (Same.trans s14 (Same.trans s15 (Same.trans (same_upd m3) (same_upd n3)))))))))))))) _ _ hd7⟩
    | 8, _ => exact ⟨d8, (Same.trans s9 (Same.trans (same_upd m1) (Same.trans (same_upd n1) (Same.trans s10 (Same.trans s11 (Same.trans s12 (Same.trans s13 (Same.trans (same_upd m2) (Same.trans (same_upd n2) (Same.trans s14 (Same.trans s15 (Same.trans (same_upd m3) (same_upd n3))))))))))))) _ _ ha8, (Same.trans s9 (Same.trans (same_upd m1) (Same.trans (same_upd n1) (Same.trans s10 (Same.trans s11 (Same.trans s12 (Same.trans s13 (Same.trans (same_upd m2) (Same.trans (same_upd n2) (Same.trans s14 (Same.trans s15 (Same.trans (same_upd m3) (same_upd n3))))))))))))) _ _ hd8⟩
    | 9, _ => exact ⟨d9, (Same.trans (same_upd m1) (Same.trans (same_upd n1) (Same.trans s10 (Same.trans s11 (Same.trans s12 (Same.trans s13 (Same.trans (same_upd m2) (Same.trans (same_upd n2) (Same.trans s14 (Same.trans s15 (Same.trans (same_upd m3) (same_upd n3)))))))))))) _ _ ha9, (Same.trans (same_upd m1) (Same.trans (same_upd n1) (Same.trans s10 (Same.trans s11 (Same.trans s12 (Same.trans s13 (Same.trans (same_upd m2) (Same.trans (same_upd n2) (Same.trans s14 (Same.trans s15 (Same.trans (same_upd m3) (same_upd n3)))))))))))) _ _ hd9⟩
    | 10, _ => exact ⟨d10, (Same.trans s11 (Same.trans s12 (Same.trans s13 (Same.trans (same_upd m2) (Same.trans (same_upd n2) (Same.trans s14 (Same.trans s15 (Same.trans (same_upd m3) (same_upd n3))))))))) _ _ ha10, (Same.trans s11 (Same.trans s12 (Same.trans s13 (Same.trans (same_upd m2) (Same.trans (same_upd n2) (Same.trans s14 (Same.trans s15 (Same.trans (same_upd m3) (same_upd n3))))))))) _ _ hd10⟩
    | 11, _ => exact ⟨d11, (Same.trans s12 (Same.trans s13 (Same.trans (same_upd m2) (Same.trans (same_upd n2) (Same.trans s14 (Same.trans s15 (Same.trans (same_upd m3) (same_upd n3)))))))) _ _ ha11, (Same.trans s12 (Same.trans s13 (Same.trans (same_upd m2) (Same.trans (same_upd n2) (Same.trans s14 (Same.trans s15 (Same.trans (same_upd m3) (same_upd n3)))))))) _ _ hd11⟩
    | 12, _ => exact ⟨d12, (Same.trans s13 (Same.trans (same_upd m2) (Same.trans (same_upd n2) (Same.trans s14 (Same.trans s15 (Same.trans (same_upd m3) (same_upd n3))))))) _ _ ha12, (Same.trans s13 (Same.trans (same_upd m2) (Same.trans (same_upd n2) (Same.trans s14 (Same.trans s15 (Same.trans (same_upd m3) (same_upd n3))))))) _ _ hd12⟩
    | 13, _ => exact ⟨d13, (Same.trans (same_upd m2) (Same.trans (same_upd n2) (Same.trans s14 (Same.trans s15 (Same.trans (same_upd m3) (same_upd n3)))))) _ _ ha13, (Same.trans (same_upd m2) (Same.trans (same_upd n2) (Same.trans s14 (Same.trans s15 (Same.trans (same_upd m3) (same_upd n3)))))) _ _ hd13⟩
    | 14, _ => exact ⟨d14, (Same.trans s15 (Same.trans (same_upd m3) (same_upd n3))) _ _ ha14, (Same.trans s15 (Same.trans (same_upd m3) (same_upd n3))) _ _ hd14⟩
    | 15, _ => exact ⟨d15, (Same.trans (same_upd m3) (same_upd n3)) _ _ ha15, (Same.trans (same_upd m3) (same_upd n3)) _ _ hd15⟩
    | n + 16, h => exact absurd h (by omega)
/-! ### _law_held -/
abbrev s_l_held : Stmt := top 23
theorem sc_l_held : FnScope ["_law_errors", "_law_kept"] ["_law_errors"] (defScope s_l_held) := ⟨rfl, rfl, rfl, by decide +kernel, rfl, by decide +kernel, by decide +kernel⟩

def spHeld (Cs : Nat → Addr) : Sp := fun vs H Q _ => ∃ (a : Addr) (v : V) (as : Nat → Addr) (xs : List V), vs = [.ref a] ∧ H a = some (.lst ((List.range 16).map (fun i => V.ref (as i)) ++ xs)) ∧ (∀ i, i < 16 → Er H (as i) (Cs i) (fs i) v) ∧
  ∀ (o : Addr) (H' : Hp), Same H H' → H o = none → H' o = some (.lst (List.replicate 16 v)) → Q (.ref o) H'
theorem lk0 {f : Str} {v : V} : List.lookup f [(f, v)] = some v := by simp only [List.lookup, beq_self_eq_true]
theorem ok_held {f : Addr} {fd : FuncData} (F : Fun K "_law_held" "_law_held" s_l_held f fd) (T : ErrT K mg Cs CW) : FnOk P w K mg base CX0 1 f fd ["_law_errors"] (spHeld Cs) := by
  refine F.ok sc_l_held (fun vs H Q E h => ?_) (fun cdv A outer s H vs Q E hr h => ?_)
  · obtain ⟨a, v, as, xs, rfl, _⟩ := h; rfl
  · obtain ⟨a, v, as, xs, rfl, ha, he, q⟩ := h
    refine ⟨_, (pss_cons (ps_set (i := 1) sc_l_held.nd rfl (.inl rfl) (pe_lst (pa_cons (pe_ef (pe_ix ix_list (pv 0) pe_int (fun _ _ => rfl))) (pa_cons (pe_ef (pe_ix ix_list (pv 0) pe_int (fun _ _ => rfl))) (pa_cons (pe_ef (pe_ix ix_list (pv 0) pe_int (fun _ _ => rfl))) (pa_cons (pe_ef (pe_ix ix_list (pv 0) pe_int (fun _ _ => rfl))) (pa_cons (pe_ef (pe_ix ix_list (pv 0) pe_int (fun _ _ => rfl))) (pa_cons (pe_ef (pe_ix ix_list (pv 0) pe_int (fun _ _ => rfl))) pa_nil))))))))
    (pss_cons (ps_set (i := 1) sc_l_held.nd rfl (.inl rfl) (pe_op op_cat (pv 1) (pe_lst (pa_cons (pe_ef (pe_ix ix_list (pv 0) pe_int (fun _ _ => rfl))) (pa_cons (pe_ef (pe_ix ix_list (pv 0) pe_int (fun _ _ => rfl))) (pa_cons (pe_ef (pe_ix ix_list (pv 0) pe_int (fun _ _ => rfl))) (pa_cons (pe_ef (pe_ix ix_list (pv 0) pe_int (fun _ _ => rfl))) (pa_cons (pe_ef (pe_ix ix_list (pv 0) pe_int (fun _ _ => rfl))) pa_nil))))))))
    (pss_one (ps_ret (pe_op op_cat (pv 1) (pe_lst (pa_cons (pe_ef (pe_ix ix_list (pv 0) pe_int (fun _ _ => rfl))) (pa_cons (pe_ef (pe_ix ix_list (pv 0) pe_int (fun _ _ => rfl))) (pa_cons (pe_ef (pe_ix ix_list (pv 0) pe_int (fun _ _ => rfl))) (pa_cons (pe_ef (pe_ix ix_list (pv 0) pe_int (fun _ _ => rfl))) (pa_cons (pe_ef (pe_ix ix_list (pv 0) pe_int (fun _ _ => rfl))) pa_nil))))))))))), ?_⟩
    obtain ⟨d0, h0, g0⟩ := he 0 (by decide)
    refine ⟨_, rfl, a, _, 0, _, rfl, rfl, SqL.of ha, atI_nat (j := 0) rfl, as 0, Cs 0, d0, _, v, rfl, (T.er 0 (by decide)).xf, T.hno 0 (by decide), h0, g0, lk0, ?_⟩
    obtain ⟨d1, h1, g1⟩ := he 1 (by decide)
    refine ⟨_, rfl, a, _, 1, _, rfl, rfl, SqL.of ha, atI_nat (j := 1) rfl, as 1, Cs 1, d1, _, v, rfl, (T.er 1 (by decide)).xf, T.hno 1 (by decide), h1, g1, lk0, ?_⟩
    obtain ⟨d2, h2, g2⟩ := he 2 (by decide)
    refine ⟨_, rfl, a, _, 2, _, rfl, rfl, SqL.of ha, atI_nat (j := 2) rfl, as 2, Cs 2, d2, _, v, rfl, (T.er 2 (by decide)).xf, T.hno 2 (by decide), h2, g2, lk0, ?_⟩
    obtain ⟨d3, h3, g3⟩ := he 3 (by decide)
    refine ⟨_, rfl, a, _, 3, _, rfl, rfl, SqL.of ha, atI_nat (j := 3) rfl, as 3, Cs 3, d3, _, v, rfl, (T.er 3 (by decide)).xf, T.hno 3 (by decide), h3, g3, lk0, ?_⟩
    obtain ⟨d4, h4, g4⟩ := he 4 (by decide)
    refine ⟨_, rfl, a, _, 4, _, rfl, rfl, SqL.of ha, atI_nat (j := 4) rfl, as 4, Cs 4, d4, _, v, rfl, (T.er 4 (by decide)).xf, T.hno 4 (by decide), h4, g4, lk0, ?_⟩
    obtain ⟨d5, h5, g5⟩ := he 5 (by decide)
    refine ⟨_, rfl, a, _, 5, _, rfl, rfl, SqL.of ha, atI_nat (j := 5) rfl, as 5, Cs 5, d5, _, v, rfl, (T.er 5 (by decide)).xf, T.hno 5 (by decide), h5, g5, lk0, ?_⟩
    refine ⟨by show 6 ≤ sizeLine; decide, fun r0 m0 => ?_⟩
    refine ⟨_, rfl, ?_⟩
    obtain ⟨d6, h6, g6⟩ := he 6 (by decide)
    refine ⟨_, rfl, a, _, 6, _, rfl, rfl, SqL.of ((same_upd m0) _ _ ha), atI_nat (j := 6) rfl, as 6, Cs 6, d6, _, v, rfl, (T.er 6 (by decide)).xf, T.hno 6 (by decide), ((same_upd m0) _ _ h6), ((same_upd m0) _ _ g6), lk0, ?_⟩
    obtain ⟨d7, h7, g7⟩ := he 7 (by decide)
    refine ⟨_, rfl, a, _, 7, _, rfl, rfl, SqL.of ((same_upd m0) _ _ ha), atI_nat (j := 7) rfl, as 7, Cs 7, d7, _, v, rfl, (T.er 7 (by decide)).xf, T.hno 7 (by decide), ((same_upd m0) _ _ h7), ((same_upd m0) _ _ g7), lk0, ?_⟩
    obtain ⟨d8, h8, g8⟩ := he 8 (by decide)
    refine ⟨_, rfl, a, _, 8, _, rfl, rfl, SqL.of ((same_upd m0) _ _ ha), atI_nat (j := 8) rfl, as 8, Cs 8, d8, _, v, rfl, (T.er 8 (by decide)).xf, T.hno 8 (by decide), ((same_upd m0) _ _ h8), ((same_upd m0) _ _ g8), lk0, ?_⟩
    obtain ⟨d9, h9, g9⟩ := he 9 (by decide)
    refine ⟨_, rfl, a, _, 9, _, rfl, rfl, SqL.of ((same_upd m0) _ _ ha), atI_nat (j := 9) rfl, as 9, Cs 9, d9, _, v, rfl, (T.er 9 (by decide)).xf, T.hno 9 (by decide), ((same_upd m0) _ _ h9), ((same_upd m0) _ _ g9), lk0, ?_⟩
    obtain ⟨d10, h10, g10⟩ := he 10 (by decide)
    refine ⟨_, rfl, a, _, 10, _, rfl, rfl, SqL.of ((same_upd m0) _ _ ha), atI_nat (j := 10) rfl, as 10, Cs 10, d10, _, v, rfl, (T.er 10 (by decide)).xf, T.hno 10 (by decide), ((same_upd m0) _ _ h10), ((same_upd m0) _ _ g10), lk0, ?_⟩
    refine ⟨by show 5 ≤ sizeLine; decide, fun r1 m1 => ?_⟩
    refine ⟨_, _, _, _, rfl, rfl, same_upd m1 _ _ upd_same, upd_same, by show 6 + 5 ≤ sizeLine; decide, fun p1 n1 => ?_⟩
    refine ⟨_, rfl, ?_⟩
    obtain ⟨d11, h11, g11⟩ := he 11 (by decide)
    refine ⟨_, rfl, a, _, 11, _, rfl, rfl, SqL.of ((Same.trans (same_upd m0) (Same.trans (same_upd m1) (same_upd n1))) _ _ ha), atI_nat (j := 11) rfl, as 11, Cs 11, d11, _, v, rfl, (T.er 11 (by decide)).xf, T.hno 11 (by decide), ((Same.trans (same_upd m0) (Same.trans (same_upd m1) (same_upd n1))) _ _ h11), ((Same.trans (same_upd m0) (Same.trans (same_upd m1) (same_upd n1))) _ _ g11), lk0, ?_⟩
    obtain ⟨d12, h12, g12⟩ := he 12 (by decide)
    refine ⟨_, rfl, a, _, 12, _, rfl, rfl, SqL.of ((Same.trans (same_upd m0) (Same.trans (same_upd m1) (same_upd n1))) _ _ ha), atI_nat (j := 12) rfl, as 12, Cs 12, d12, _, v, rfl, (T.er 12 (by decide)).xf, T.hno 12 (by decide), ((Same.trans (same_upd m0) (Same.trans (same_upd m1) (same_upd n1))) _ _ h12), ((Same.trans (same_upd m0) (Same.trans (same_upd m1) (same_upd n1))) _ _ g12), lk0, ?_⟩
    obtain ⟨d13, h13, g13⟩ := he 13 (by decide)
    refine ⟨_, rfl, a, _, 13, _, rfl, rfl, SqL.of ((Same.trans (same_upd m0) (Same.trans (same_upd m1) (same_upd n1))) _ _ ha), atI_nat (j := 13) rfl, as 13, Cs 13, d13, _, v, rfl, (T.er 13 (by decide)).xf, T.hno 13 (by decide), ((Same.trans (same_upd m0) (Same.trans (same_upd m1) (same_upd n1))) _ _ h13), ((Same.trans (same_upd m0) (Same.trans (same_upd m1) (same_upd n1))) _ _ g13), lk0, ?_⟩
    obtain ⟨d14, h14, g14⟩ := he 14 (by decide)
    refine ⟨_, rfl, a, _, 14, _, rfl, rfl, SqL.of ((Same.trans (same_upd m0) (Same.trans (same_upd m1) (same_upd n1))) _ _ ha), atI_nat (j := 14) rfl, as 14, Cs 14, d14, _, v, rfl, (T.er 14 (by decide)).xf, T.hno 14 (by decide), ((Same.trans (same_upd m0) (Same.trans (same_upd m1) (same_upd n1))) _ _ h14), ((Same.trans (same_upd m0) (Same.trans (same_upd m1) (same_upd n1))) _ _ g14), lk0, ?_⟩
    obtain ⟨d15, h15, g15⟩ := he 15 (by decide)
    refine ⟨_, rfl, a, _, 15, _, rfl, rfl, SqL.of ((Same.trans (same_upd m0) (Same.trans (same_upd m1) (same_upd n1))) _ _ ha), atI_nat (j := 15) rfl, as 15, Cs 15, d15, _, v, rfl, (T.er 15 (by decide)).xf, T.hno 15 (by decide), ((Same.trans (same_upd m0) (Same.trans (same_upd m1) (same_upd n1))) _ _ h15), ((Same.trans (same_upd m0) (Same.trans (same_upd m1) (same_upd n1))) _ _ g15), lk0, ?_⟩
    refine ⟨by show 5 ≤ sizeLine; decide, fun r2 m2 => ?_⟩
    refine ⟨_, _, _, _, rfl, rfl, same_upd m2 _ _ upd_same, upd_same, by show 11 + 5 ≤ sizeLine; decide, fun p2 n2 => ?_⟩
    exact q p2 _ (Same.trans (Same.trans (same_upd m0) (Same.trans (same_upd m1) (same_upd n1))) (Same.trans (same_upd m2) (same_upd n2))) ((Same.trans (Same.trans (same_upd m0) (Same.trans (same_upd m1) (same_upd n1))) (same_upd m2)).free n2) upd_same
end
/-! ### lists compared -/
theorem dpR {K : PySem.W.Frag} {H : Hp} {a : Addr} {n : Nat} {v : V} {d : PyData} (h : SqL K H a (List.replicate n v)) (hd : Dp K H v d) : Dp K H (.ref a) (.list (List.replicate n d)) := by
  refine .lst h ?_
  clear h
  induction n with
  | zero => exact .nil
  | succ n ih => rw [List.replicate_succ, List.replicate_succ]; exact .cons hd ih
theorem eqR {d : PyData} (hd : PyData.eqv d d = true) (n : Nat) : PyData.eqv (.list (List.replicate n d)) (.list (List.replicate n d)) = true := by
  rw [PyData.eqv]
  induction n with
  | zero => rfl
  | succ n ih => rw [List.replicate_succ, PyData.eqvAll, hd, ih]; rfl
theorem dpB {K : PySem.W.Frag} {H : Hp} {a : Addr} {l : List Bool} (h : SqL K H a (l.map V.bl)) : Dp K H (.ref a) (.list (l.map PyData.bool)) := by
  refine .lst h ?_
  clear h
  induction l with
  | nil => exact .nil
  | cons x l ih => exact .cons (.bl x) ih
theorem canB (l : List Bool) : PyData.canLayAll0 (l.map PyData.bool) = true := by
  induction l with
  | nil => rfl
  | cons x l ih =>
    rw [List.map_cons, PyData.canLayAll0, ih]
    rfl
theorem depB (l : List Bool) : PyData.depthAll (l.map PyData.bool) = 0 := by
  induction l with
  | nil => rfl
  | cons x l ih =>
    rw [List.map_cons, PyData.depthAll, ih]
    rfl
theorem shB (l : List Bool) : SeqAt.shaped (.list (l.map PyData.bool)) = true := by
  unfold SeqAt.shaped
  rw [PyData.canLay0, canB, PyData.depth, depB]
  rfl
theorem eqB (l : List Bool) : PyData.eqv (.list (l.map PyData.bool)) (.list (l.map PyData.bool)) = true := by
  rw [PyData.eqv]
  induction l with
  | nil => rfl
  | cons x l ih => rw [List.map_cons, PyData.eqvAll, ih, PyData.eqv]; cases x <;> rfl
theorem strO (x : String) : PyData.strOk (Str.ofString x) = true := by
  rw [Str.ofString_eq_toList]
  unfold PyData.strOk
  rw [List.all_toArray, List.all_eq_true]
  intro n hn
  obtain ⟨c, _, rfl⟩ := List.mem_map.mp hn
  have v := c.valid
  refine decide_eq_true ?_
  show c.val.toNat < 0x110000
  rcases v with v | v
  · exact Nat.lt_trans v (by decide)
  · exact v.2
theorem shS (x : String) : SeqAt.shaped (.list (List.replicate 16 (PyData.str (Str.ofString x)))) = true := by
  have e : PyData.canLay0 (.str (Str.ofString x)) = true := strO x
  unfold SeqAt.shaped
  have c : ∀ n, PyData.canLayAll0 (List.replicate n (.str (Str.ofString x))) = true := by
    intro n
    induction n with
    | zero => rfl
    | succ n ih => rw [List.replicate_succ, PyData.canLayAll0, e, ih]; rfl
  rw [PyData.canLay0, c]
  rfl
theorem numB (z : Int) : (z % (2 * 10 ^ (60 : Int).toNat - 1) - 10 ^ (60 : Int).toNat + 1).natAbs.log2 < 1920 := by
  show (z % (2 * 10 ^ 60 - 1) - 10 ^ 60 + 1).natAbs.log2 < 1920
  have h1 := Int.emod_nonneg z (show (2 * 10 ^ 60 - 1 : Int) ≠ 0 by decide +kernel)
  have h2 := Int.emod_lt_of_pos z (show (0 : Int) < 2 * 10 ^ 60 - 1 by decide +kernel)
  have key : ∀ t y : Int, 0 ≤ y → y < 2 * t - 1 → (y - t + 1).natAbs ≤ t.natAbs * 2 + 1 := fun t y a b => by omega
  have b := key (10 ^ 60) _ h1 h2
  have c : ((10 : Int) ^ 60).natAbs * 2 + 1 < 2 ^ 1920 := by decide +kernel
  generalize (z % (2 * 10 ^ 60 - 1) - 10 ^ 60 + 1).natAbs = m at b
  by_cases e : m = 0
  · rw [e]; decide
  · exact (Nat.log2_lt e).mpr (Nat.lt_of_le_of_lt b c)
section
variable {P : Program} {w : World} {K : PySem.W.Frag} {mg : Str → Option Value} {base : Heap} {Cs : Nat → Addr} {CW : Addr}
abbrev s_law : Stmt := top 24
theorem sc_law : FnScope ["_law_script", "_law_number", "_law_thing", "_law_errors", "_law_k", "_law_j"] ["_law_script"] (defScope s_law) := ⟨rfl, rfl, rfl, by decide +kernel, rfl, by decide +kernel, by decide +kernel⟩

def spLaw (K : PySem.W.Frag) : Sp := fun vs H Q _ => ∃ (a : Addr) (ns : List Int), vs = [.ref a] ∧ SqL K H a (ns.map V.int) ∧ ns.length ≤ 63 ∧ ∀ H', Q (.bl true) H'
theorem ok_law {f : Addr} {fd : FuncData} (F : Fun K "law" "law" s_law f fd) (T : ErrT K mg Cs CW)
    (D_l_cell : DefOk P w K mg base CX0 1 "_law_cell" ["_law_script", "_law_k"] [] (spCell K)) (D_l_made : DefOk P w K mg base CX0 3 "_law_made" ["_law_number"] [] (spMade Cs))
    (D_l_held : DefOk P w K mg base CX0 1 "_law_held" ["_law_errors"] [] (spHeld Cs)) (D_l_kinds : DefOk P w K mg base CX0 1 "_law_kinds" ["_law_error"] [] (spKinds K Cs)) :
    FnOk P w K mg base CX0 4 f fd ["_law_script"] (spLaw K) := by
  refine F.ok sc_law (fun vs H Q E h => ?_) (fun cdv A outer s H vs Q E hr h => ?_)
  · obtain ⟨a, ns, rfl, _⟩ := h; rfl
  · obtain ⟨a, ns, rfl, hS, hlen, q⟩ := h
    have hu2 : (A.deeper (envOfC "law" (defScope s_law) s.heap.objs.size f cdv)).units + 64 < cLine := by have := hr.un; omega
    refine ⟨_, (pss_cons (ps_set (i := 1) sc_law.nd rfl (.inl rfl) (pe_op op_add (pe_op op_sub (pe_op op_mod (pe_callTy call_int1 (by rfl) T.int (by decide +kernel) (pa_cons (pe_d D_l_cell hr pass0 (pa_cons (pv 0) (pa_cons pe_int pa_nil))) pa_nil)) (pe_op op_sub (pe_op op_mul pe_int (pe_op op_pow pe_int pe_int)) pe_int)) (pe_op op_pow pe_int pe_int)) pe_int))
    (pss_cons (ps_for PassesOwn.never rfl (pi_list (pe_lst (pa_cons (pv 1) (pa_cons (pe_callTy call_str_int (by rfl) T.str (by decide +kernel) (pa_cons (pv 1) pa_nil)) (pa_cons pe_non pa_nil))))) (pg_name (i := 2) sc_law.nd rfl (.inl rfl)) (pss_cons (ps_set (i := 3) sc_law.nd rfl (.inl rfl) (pe_d D_l_made hr pass0 (pa_cons (pv 2) pa_nil)))
    (pss_cons (ps_if (pt_cmpR (op_neD hu2) (pe_d D_l_held hr pass0 (pa_cons (pv 3) pa_nil)) (pe_op op_rep (pe_lst (pa_cons (pv 2) pa_nil)) pe_int) (nomark _)) (pss_one (ps_ret pe_bl)) pss_nil)
    (pss_cons (ps_expr (pe_bm PySem.F.plainAttrs_list PySem.F.slot_list_append PySem.F.type_list_append mt_append (pv 3) (pa_cons (pe_err0 PySem.F.excBase_ValueError T.q_NoQuot T.g_NoQuot T.k_NoQuot) pa_nil)))
    (pss_one (ps_for PassesOwn.never rfl (pi_range1 (by rfl) T.range (pa_cons (pe_callB call_len_seq (by rfl) T.len PySem.boot_len (pa_cons (pv 3) pa_nil)) pa_nil)) (pg_name (i := 4) sc_law.nd rfl (.inr rfl)) (pss_cons (ps_if (PW.pt (pw_or (pt_not (pt_truth (pe_callB call_isX (by rfl) T.isinstance (by decide +kernel) (pa_cons (pe_ix ix_list (pv 3) (pv 4) (fun _ _ => rfl)) (pa_cons (pe_glob (v := .ref _) rfl T.g_WireError rfl) pa_nil))) (by intro _; rfl))) (pw_or1 (pt_not (pt_truth (pe_callB call_isX (by rfl) T.isinstance (by decide +kernel) (pa_cons (pe_ix ix_list (pv 3) (pv 4) (fun _ _ => rfl)) (pa_cons (pe_bltn (v := .ty "ValueError") (by rfl) T.ValueError (by decide +kernel) rfl) pa_nil))) (by intro _; rfl)))))) (pss_one (ps_ret pe_bl)) pss_nil)
    (pss_one (ps_if (pt_cmpR (op_neD hu2) (pe_d D_l_kinds hr pass0 (pa_cons (pe_ix ix_list (pv 3) (pv 4) (fun _ _ => rfl)) pa_nil)) (pe_lc (own := [("_law_j", 5)]) (tt := tYes) (te := tOp rEq (tVar 5) (tVar 4)) rfl sc_law.nd (pi_range1 (by rfl) T.range (pa_cons (pe_callB call_len_seq (by rfl) T.len PySem.boot_len (pa_cons (pv 3) pa_nil)) pa_nil)) (blkOk_by (N := ["_law_script", "_law_number", "_law_thing", "_law_errors", "_law_k", "_law_j"]) (sc := defScope s_law) (by decide +kernel)) (fun _ _ _ _ _ => (pg_name (i := 5) sc_law.nd rfl (.inl rfl))) (fun _ _ _ _ _ => pts_nil) (fun _ _ _ _ _ => by exact (pe_cmpR op_eq (pv 5) (pv 4) (nomark _)))) (nomark _)) (pss_one (ps_ret pe_bl)) pss_nil)))))))))
    (pss_one (ps_ret pe_bl)))), ?_⟩
    refine ⟨_, rfl, a, ns, 0, rfl, hS, fun z => ?_⟩
    refine .inl ⟨z, rfl, _, _, rfl, rfl, ⟨by decide, by decide, by decide⟩, _, _, rfl, rfl, .inl ⟨by decide, by decide⟩, _, _, rfl, rfl, ?_⟩
    refine ⟨_, _, rfl, rfl, (by show (0 : Int) < 2 * 10 ^ 60 - 1; decide +kernel), ?_⟩
    refine ⟨_, _, rfl, rfl, ⟨by decide, by decide, by decide⟩, _, _, rfl, rfl, _, _, rfl, rfl, ?_⟩
    have nb := numB z
    show gName 1 (V.int (z % (2 * 10 ^ (60 : Int).toNat - 1) - 10 ^ (60 : Int).toNat + 1)) _ _ _
    generalize z % (2 * 10 ^ (60 : Int).toNat - 1) - 10 ^ (60 : Int).toNat + 1 = m at nb ⊢
    refine ⟨_, rfl, _, rfl, m, rfl, nb, by show 3 ≤ sizeLine; decide, fun L nL => ?_⟩
    have t0 : Same H (upd H L (.lst [.int m, .str (toString m), .non])) := same_upd nL
    generalize hH0 : upd H L (.lst [.int m, .str (toString m), .non]) = H0 at t0 ⊢
    have hL : H0 L = some (.lst [.int m, .str (toString m), .non]) := by rw [← hH0]; exact upd_same
    refine ⟨L, rfl, ⟨_, SqL.of hL⟩, for_list (K := K) (a := L) (xs := [.int m, .str (toString m), .non]) (fun i σ H' => ∃ v2 v3 v4 v5 : Option V, σ = [some (.ref a), some (.int m), v2, v3, v4, v5] ∧ Same H0 H') ⟨none, none, none, none, rfl, fun _ _ h => h⟩ (fun i σ H' _ ⟨_, _, _, _, _, e⟩ => SqL.of (e _ _ hL)) ?_ ?_⟩
    · rintro i y σ H1 hi ⟨v2, v3, v4, v5, rfl, s1⟩
      obtain ⟨d, hdp, hde, hds⟩ : ∃ d, (∀ H', Dp K H' y d) ∧ PyData.eqv d d = true ∧ SeqAt.shaped (.list (List.replicate 16 d)) = true := by
        match i, hi with
        | 0, h => cases h; exact ⟨.int m, fun _ => .int m, by rw [PyData.eqv]; exact beq_self_eq_true _, rfl⟩
        | 1, h => cases h; exact ⟨.str (toString m), fun _ => .str _, by rw [PyData.eqv]; exact beq_self_eq_true _, shS _⟩
        | 2, h => cases h; exact ⟨.none, fun _ => .non, rfl, rfl⟩
      -- made
      refine ⟨_, rfl, y, rfl, fun as o H2 s2 no ho he => ?_⟩
      -- held
      refine ⟨_, rfl, o, y, as, [], rfl, (by rw [List.append_nil]; exact ho), he, fun p H3 s3 np hp => ?_⟩
      refine ⟨_, rfl, by show 1 ≤ sizeLine; decide, fun r nr => ⟨r, 16, [y], rfl, rfl, upd_same, by decide, by decide, by show 1 * 16 ≤ sizeLine; decide, fun t nt => ?_⟩⟩
      have s4 : Same H3 (upd (upd H3 r (.lst [y])) t (.lst (List.replicate 16 y))) := (same_upd nr).trans (same_upd nt)
      have ht : (upd (upd H3 r (.lst [y])) t (.lst (List.replicate 16 y))) t = some (.lst (List.replicate 16 y)) := upd_same
      have e16 : (List.replicate (16 : Int).toNat [y]).flatten = List.replicate 16 y := rfl
      rw [e16]
      generalize upd (upd H3 r (.lst [y])) t (.lst (List.replicate 16 y)) = H4 at s4 ht ⊢
      refine ⟨_, _, dpR (n := 16) (SqL.of (s4 _ _ hp)) (hdp _), dpR (n := 16) (SqL.of ht) (hdp _), hds, hds, ?_⟩
      rw [eqR hde 16]
      refine ⟨false, rfl, iteF ?_⟩
      -- append
      have ho4 := s4 _ _ (s3 _ _ ho)
      refine ⟨_, rfl, .inl ⟨rfl, _, SqL.of ho4⟩, fun z nz => ?_⟩
      have s5 : Same H4 (upd H4 z (exo z (Cs 16) none)) := same_upd nz
      refine ⟨o, _, _, rfl, rfl, s5 _ _ ho4, by show 16 < sizeLine; decide, ?_⟩
      have hz : (upd H4 z (exo z (Cs 16) none)) z = some (exo z (Cs 16) none) := upd_same
      generalize upd H4 z (exo z (Cs 16) none) = H5 at s5 hz ⊢
      have s6 : Same H1 (upd H5 o (.lst ((List.range 16).map (fun i => V.ref (as i)) ++ [V.ref z]))) := mutS (s2.trans (s3.trans (s4.trans s5))) no
      have ho6 : (upd H5 o (.lst ((List.range 16).map (fun i => V.ref (as i)) ++ [V.ref z]))) o = some (.lst ((List.range 16).map (fun i => V.ref (as i)) ++ [V.ref z])) := upd_same
      have hE : ∀ k, k < 17 → ∃ b, ((List.range 16).map (fun i => V.ref (as i)) ++ [V.ref z])[k]? = some (V.ref b) ∧ ErK K Cs (upd H5 o (.lst ((List.range 16).map (fun i => V.ref (as i)) ++ [V.ref z]))) b k := by
        intro k hk
        have ho5 := s5 _ _ ho4
        by_cases c : k < 16
        · obtain ⟨dx, h1, h2⟩ := he k c
          have h1' := s5 _ _ (s4 _ _ (s3 _ _ h1))
          have h2' := s5 _ _ (s4 _ _ (s3 _ _ h2))
          refine ⟨as k, ?_, some dx, ?_, fun dy e => ?_⟩
          · rw [List.getElem?_append_left (by rw [List.length_map, List.length_range]; exact c), List.getElem?_map, List.getElem?_range c]; rfl
          · rw [upd_ne (fun e => by rw [e, ho5] at h1'; exact absurd h1' (by intro z; cases z))]; exact h1'
          · cases e
            exact ⟨_, by rw [upd_ne (fun e => by rw [e, ho5] at h2'; exact absurd h2' (by intro z; cases z))]; exact h2'⟩
        · have e : k = 16 := by omega
          subst e
          refine ⟨z, rfl, none, ?_, fun dy e => by cases e⟩
          rw [upd_ne (fun e => by rw [e, ho5] at hz; exact absurd hz (by intro z; cases z))]; exact hz
      generalize upd H5 o (.lst ((List.range 16).map (fun i => V.ref (as i)) ++ [V.ref z])) = H6 at s6 ho6 hE ⊢
      generalize hX : (List.range 16).map (fun i => V.ref (as i)) ++ [V.ref z] = xs at ho6 hE
      have hxl : xs.length = 17 := by rw [← hX]; rfl
      refine ⟨_, rfl, o, xs, rfl, .inl (SqL.of ho6), _, rfl, by omega, by omega, ?_⟩
      rw [Int.toNat_natCast, hxl]
      refine for_range (lo := 0) (n := 17) (fun k σ H' => ∃ v4 v5 : Option V, σ = [some (.ref a), some (.int m), some y, some (.ref o), v4, v5] ∧ Same H6 H') ⟨v4, v5, rfl, fun _ _ h => h⟩ ?_ ?_
      · rintro k σ H7 hk ⟨v4, v5, rfl, s7⟩
        rw [Int.zero_add]
        obtain ⟨b, hb, hEb⟩ := hE k hk
        have hE7 := hEb.mono s7
        obtain ⟨d', h1, h2⟩ := id hE7
        have TK := (T.er k hk).kc
        have ho7 := s7 _ _ ho6
        refine ⟨_, rfl, _, rfl, o, xs, (k : Int), V.ref b, rfl, rfl, SqL.of ho7, atI_nat hb, b, Cs k, d', _, _, _, rfl, TK, h1, h2, ref_only, T.kW k hk, true, rfl, iteF ?_⟩
        refine ⟨_, rfl, _, rfl, o, xs, (k : Int), V.ref b, rfl, rfl, SqL.of ho7, atI_nat hb, b, Cs k, d', _, _, _, rfl, TK, h1, h2, (fun _ h => h), T.kV k hk, true, rfl, iteF ?_⟩
        refine ⟨_, rfl, _, rfl, o, xs, (k : Int), V.ref b, rfl, rfl, SqL.of ho7, atI_nat hb, b, k, rfl, hE7, hk, fun p2 H8 s8 np2 hp2 => ?_⟩
        have ho8 := s8 _ _ ho7
        refine ⟨_, rfl, o, xs, rfl, .inl (SqL.of ho8), _, rfl, by omega, by omega, fun D nD => ?_⟩
        rw [Int.toNat_natCast, hxl]
        refine lc_range (lo := 0) (n := 17) (fun i H9 => Same H8 H9 ∧ H9 D = some (.lst (((List.range i).map fun j => decide (j = k)).map V.bl))) ⟨same_upd nD, upd_same⟩ ?_ ?_
        · rintro i H9 hi ⟨s9, hD⟩
          rw [Int.zero_add]
          refine ⟨rfl, yesT ?_⟩
          refine ⟨_, rfl, _, rfl, rfl, ?_⟩
          refine ⟨_, hD, small64 (by rw [List.length_map, List.length_map, List.length_range]; omega), mutS s9 nD, ?_⟩
          rw [upd_same, List.range_succ, List.map_append, List.map_append]
          have e : decide (V.int (i : Int) = V.int (k : Int)) = decide (i = k) := by
            by_cases c : i = k
            · rw [decide_eq_true c, c, decide_eq_true rfl]
            · rw [decide_eq_false c, decide_eq_false (fun z => c (by have := V.int.inj z; omega))]
          rw [e]
          rfl
        · rintro H9 ⟨s9, hD⟩
          have e17 : (List.range 17).map (fun j => V.bl (decide (j = k))) = ((List.range 17).map fun j => decide (j = k)).map V.bl := rfl
          rw [e17] at hp2
          refine ⟨_, _, dpB (SqL.of (s9 _ _ hp2)), dpB (SqL.of hD), shB _, shB _, ?_⟩
          rw [eqB]
          exact ⟨false, rfl, iteF ⟨_, _, rfl, s7.trans (s8.trans s9)⟩⟩
      · rintro σ H7 ⟨v4, v5, rfl, s7⟩
        exact ⟨_, _, _, _, rfl, s1.trans (s6.trans s7)⟩
    · rintro σ H1 ⟨v2, v3, v4, v5, rfl, s1⟩
      exact q H1
end
/-! ### the classes in the written part -/
abbrev veT : List Value := [.type "ValueError", .type "Exception", .type "BaseException", .type "object"]
def ErrAt (K : PySem.W.Frag) (C W : Addr) : Prop := ∃ nm q N bs sn sub ab col dd k0 k1 k2 k3 k5, K.lookup C = some (excClassObj nm q C N bs (.ref W :: veT) true sn sub ab col dd k0 k1 k2 k3 k5 "ValueError.__new__")
def ErrAt' (K : PySem.W.Frag) (C : Addr) : Prop := ∃ nm q N bs bm sn sub ab col dd k0 k1 k2 k3 k5, K.lookup C = some (excClassObj nm q C N bs bm true sn sub ab col dd k0 k1 k2 k3 k5 "ValueError.__new__")
section
variable {K : PySem.W.Frag} {C D W : Addr}
theorem ErrAt.to (h : ErrAt K C W) : ErrAt' K C := by
  obtain ⟨nm, q, N, bs, sn, sub, ab, col, dd, k0, k1, k2, k3, k5, e⟩ := h
  exact ⟨nm, q, N, bs, _, sn, sub, ab, col, dd, k0, k1, k2, k3, k5, e⟩
theorem ErrAt'.ok (h : ErrAt' K C) : ((PySem.W.clsIn K C).isSome && PySem.W.typeIn K (.ref C) == some (.type "type")) = true := by
  obtain ⟨nm, q, N, bs, bm, sn, sub, ab, col, dd, k0, k1, k2, k3, k5, e⟩ := h
  have ty : PySem.W.typeIn K (.ref C) = some (.type "type") := by
    show (K.lookup C).map (·.cls) = _
    rw [e]
    rfl
  rw [ty]
  unfold PySem.W.clsIn
  rw [e]
  simp
theorem ErrAt.sub (h : ErrAt K C W) (v : Value) : PySem.W.subIn K (.ref C) v = some ((Value.ref C :: .ref W :: veT).contains v) := by
  obtain ⟨nm, q, N, bs, sn, sub, ab, col, dd, k0, k1, k2, k3, k5, e⟩ := h
  show PySem.W.mroIn K C v = _
  unfold PySem.W.mroIn PySem.W.clsIn
  rw [e]
  rfl
theorem ErrAt.errC (h : ErrAt K C W) (sa : PySem.W.findIn K (.ref C) "__setattr__" = some (some (.builtin "object.__setattr__"))) (ga : PySem.W.findIn K (.ref C) "__getattribute__" = some (some (.builtin "BaseException.__getattribute__")))
    (gg : PySem.W.findIn K (.ref C) "__getattr__" = some none) (cl : PySem.W.findIn K (.ref C) "__class__" = some (some (.builtin "object.__class__"))) (kc : PySem.W.keepIn K (.ref C) = true)
    (hget : PySem.W.specialIn K (.builtin "object.__class__") "__get__" = some (some (.builtin "getset_descriptor.__get__"))) (htk : PySem.W.takesIn K (.builtin "object.__class__") = some true) : ErrC K C := by
  have b : PySem.W.subIn K (.ref C) (.type "BaseException") = some true := by
    rw [h.sub]
    simp
  have o : PySem.W.mroIn K C (.type "object") = some true := by
    have z := h.sub (.type "object")
    have e : (Value.ref C :: .ref W :: veT).contains (.type "object") = true := by simp
    rw [e] at z
    exact z
  obtain ⟨nm, q, N, bs, sn, sub, ab, col, dd, k0, k1, k2, k3, k5, e⟩ := id h
  have hd : PySem.W.hasDictIn K C = true := by unfold PySem.W.hasDictIn PySem.W.clsIn; rw [e]; rfl
  have ty : PySem.W.typeIn K (.ref C) = some (.type "type") := by show (K.lookup C).map (·.cls) = _; rw [e]; rfl
  exact ⟨⟨⟨nm, q, N, bs, _, sn, sub, ab, col, dd, k0, k1, k2, k3, k5, e, (by show PySem.HandSPX.refsVE veT = true; decide +kernel)⟩, sa, b, ty, kc⟩, ⟨ga, gg, b, hd⟩, ⟨ga, gg, b, hd, cl, hget, htk, o⟩⟩
theorem ErrAt.kitV (h : ErrAt K C W) : PySem.W.kitOne K (.ref C) (.type "ValueError") = some true := by
  unfold PySem.W.kitOne PySem.W.kitCls
  rw [if_neg (by simp)]
  show (if PySem.W.kitMeta "ValueError" = true then _ else _) = _
  rw [if_pos (by decide +kernel), h.sub]
  simp
theorem ErrAt.kitW (h : ErrAt K C W) (hW : ErrAt' K W) : PySem.W.kitOne K (.ref C) (.ref W) = some true := by
  unfold PySem.W.kitOne PySem.W.kitCls
  by_cases c : C = W
  · rw [if_pos (by rw [c]; exact beq_self_eq_true _)]
  · rw [if_neg (by intro z; exact c (Value.ref.inj (beq_iff_eq.mp z)))]
    show (if _ then _ else _) = _
    rw [if_pos hW.ok, h.sub]
    simp
theorem ErrAt.kitD (h : ErrAt K C W) (hD : ErrAt K D W) (ne : D ≠ W) : PySem.W.kitOne K (.ref C) (.ref D) = some (decide (D = C)) := by
  unfold PySem.W.kitOne PySem.W.kitCls
  by_cases c : C = D
  · rw [if_pos (by rw [c]; exact beq_self_eq_true _), decide_eq_true c.symm]
  · rw [if_neg (by intro z; exact c (Value.ref.inj (beq_iff_eq.mp z)))]
    show (if _ then _ else _) = _
    rw [if_pos hD.to.ok, h.sub, decide_eq_false (fun z => c z.symm)]
    have : (Value.ref C :: .ref W :: veT).contains (.ref D) = false := by
      rw [Bool.eq_false_iff]
      intro z
      rw [List.contains_iff_mem] at z
      rcases List.mem_cons.mp z with z | z
      · exact c (Value.ref.inj z).symm
      rcases List.mem_cons.mp z with z | z
      · exact ne (Value.ref.inj z)
      · simp at z
    rw [this]
theorem nod_ne {l : List Addr} {w : Addr} (h : (l ++ [w]).Nodup) {i j : Nat} (hi : i < l.length) (hj : j < l.length) : decide (l.getD j 0 = l.getD i 0) = decide (j = i) ∧ l.getD j 0 ≠ w := by
  have hl := (List.nodup_append.mp h).1
  have gi : l.getD i 0 = l[i] := by rw [List.getD_eq_getElem?_getD, List.getElem?_eq_getElem hi]; rfl
  have gj : l.getD j 0 = l[j] := by rw [List.getD_eq_getElem?_getD, List.getElem?_eq_getElem hj]; rfl
  constructor
  · by_cases c : j = i
    · subst c
      rw [decide_eq_true rfl, decide_eq_true rfl]
    · rw [decide_eq_false c, decide_eq_false]
      rw [gi, gj]
      intro z
      exact c ((List.getElem_inj hl).mp z)
  · rw [gj]
    intro z
    exact (List.nodup_append.mp h).2.2 _ (List.getElem_mem hj) _ (List.mem_singleton.mpr rfl) z
theorem ErrAt.kit {l : List Addr} {i j : Nat} (h : ErrAt K (l.getD i 0) W) (hD : ErrAt K (l.getD j 0) W) (hi : i < l.length) (hj : j < l.length) (nod : (l ++ [W]).Nodup) :
    PySem.W.kitOne K (.ref (l.getD i 0)) (.ref (l.getD j 0)) = some (decide (j = i)) := by
  obtain ⟨a, b⟩ := nod_ne nod hi hj
  rw [h.kitD hD b, a]
end
theorem all_mk {l : PySem.W.OpenLaw} {w : World} {K : PySem.W.Frag} {h : Heap} {mg : Str → Option Value} {fa C_NoHalves C_NoKind C_NoMost C_NoName C_NoPart C_NoPlace C_NoQuot C_NoRing C_NoShare C_NoSighting C_NoSize C_NoText C_NoValue C_TwoKinds C_Unfilled C_WireError C_WrongKind C_WrongSize f_NoSize_init f_NoRing_init f_NoPlace_init f_WrongSize_init f_NoText_init f_NoName_init f_NoKind_init f_NoMost_init f_TwoKinds_init f_NoPart_init f_Unfilled_init f_WrongKind_init f_NoValue_init f_NoShare_init f_NoSighting_init f_NoHalves_init f_l_cell f_l_kinds f_l_made f_l_held f_law : Addr} (X : K.In h) (G : h.Ns mainGlobals mg) (hfa : mg "law" = some (.ref fa))
    {nm_NoHalves qn_NoHalves : Str} {N_NoHalves : Addr} {bs_NoHalves : List Value} {sn_NoHalves : List Str} {sub_NoHalves : List Value} {ab_NoHalves : Bool} {col_NoHalves : Option Bool} {dd_NoHalves : Option Addr} {k0_NoHalves k1_NoHalves k2_NoHalves k3_NoHalves k5_NoHalves : Option Value}
    {nm_NoKind qn_NoKind : Str} {N_NoKind : Addr} {bs_NoKind : List Value} {sn_NoKind : List Str} {sub_NoKind : List Value} {ab_NoKind : Bool} {col_NoKind : Option Bool} {dd_NoKind : Option Addr} {k0_NoKind k1_NoKind k2_NoKind k3_NoKind k5_NoKind : Option Value}
    {nm_NoMost qn_NoMost : Str} {N_NoMost : Addr} {bs_NoMost : List Value} {sn_NoMost : List Str} {sub_NoMost : List Value} {ab_NoMost : Bool} {col_NoMost : Option Bool} {dd_NoMost : Option Addr} {k0_NoMost k1_NoMost k2_NoMost k3_NoMost k5_NoMost : Option Value}
    {nm_NoName qn_NoName : Str} {N_NoName : Addr} {bs_NoName : List Value} {sn_NoName : List Str} {sub_NoName : List Value} {ab_NoName : Bool} {col_NoName : Option Bool} {dd_NoName : Option Addr} {k0_NoName k1_NoName k2_NoName k3_NoName k5_NoName : Option Value}
    {nm_NoPart qn_NoPart : Str} {N_NoPart : Addr} {bs_NoPart : List Value} {sn_NoPart : List Str} {sub_NoPart : List Value} {ab_NoPart : Bool} {col_NoPart : Option Bool} {dd_NoPart : Option Addr} {k0_NoPart k1_NoPart k2_NoPart k3_NoPart k5_NoPart : Option Value}
    {nm_NoPlace qn_NoPlace : Str} {N_NoPlace : Addr} {bs_NoPlace : List Value} {sn_NoPlace : List Str} {sub_NoPlace : List Value} {ab_NoPlace : Bool} {col_NoPlace : Option Bool} {dd_NoPlace : Option Addr} {k0_NoPlace k1_NoPlace k2_NoPlace k3_NoPlace k5_NoPlace : Option Value}
    {nm_NoQuot qn_NoQuot : Str} {N_NoQuot : Addr} {bs_NoQuot : List Value} {sn_NoQuot : List Str} {sub_NoQuot : List Value} {ab_NoQuot : Bool} {col_NoQuot : Option Bool} {dd_NoQuot : Option Addr} {k0_NoQuot k1_NoQuot k2_NoQuot k3_NoQuot k5_NoQuot : Option Value}
    {nm_NoRing qn_NoRing : Str} {N_NoRing : Addr} {bs_NoRing : List Value} {sn_NoRing : List Str} {sub_NoRing : List Value} {ab_NoRing : Bool} {col_NoRing : Option Bool} {dd_NoRing : Option Addr} {k0_NoRing k1_NoRing k2_NoRing k3_NoRing k5_NoRing : Option Value}
    {nm_NoShare qn_NoShare : Str} {N_NoShare : Addr} {bs_NoShare : List Value} {sn_NoShare : List Str} {sub_NoShare : List Value} {ab_NoShare : Bool} {col_NoShare : Option Bool} {dd_NoShare : Option Addr} {k0_NoShare k1_NoShare k2_NoShare k3_NoShare k5_NoShare : Option Value}
    {nm_NoSighting qn_NoSighting : Str} {N_NoSighting : Addr} {bs_NoSighting : List Value} {sn_NoSighting : List Str} {sub_NoSighting : List Value} {ab_NoSighting : Bool} {col_NoSighting : Option Bool} {dd_NoSighting : Option Addr} {k0_NoSighting k1_NoSighting k2_NoSighting k3_NoSighting k5_NoSighting : Option Value}
    {nm_NoSize qn_NoSize : Str} {N_NoSize : Addr} {bs_NoSize : List Value} {sn_NoSize : List Str} {sub_NoSize : List Value} {ab_NoSize : Bool} {col_NoSize : Option Bool} {dd_NoSize : Option Addr} {k0_NoSize k1_NoSize k2_NoSize k3_NoSize k5_NoSize : Option Value}
    {nm_NoText qn_NoText : Str} {N_NoText : Addr} {bs_NoText : List Value} {sn_NoText : List Str} {sub_NoText : List Value} {ab_NoText : Bool} {col_NoText : Option Bool} {dd_NoText : Option Addr} {k0_NoText k1_NoText k2_NoText k3_NoText k5_NoText : Option Value}
    {nm_NoValue qn_NoValue : Str} {N_NoValue : Addr} {bs_NoValue : List Value} {sn_NoValue : List Str} {sub_NoValue : List Value} {ab_NoValue : Bool} {col_NoValue : Option Bool} {dd_NoValue : Option Addr} {k0_NoValue k1_NoValue k2_NoValue k3_NoValue k5_NoValue : Option Value}
    {nm_TwoKinds qn_TwoKinds : Str} {N_TwoKinds : Addr} {bs_TwoKinds : List Value} {sn_TwoKinds : List Str} {sub_TwoKinds : List Value} {ab_TwoKinds : Bool} {col_TwoKinds : Option Bool} {dd_TwoKinds : Option Addr} {k0_TwoKinds k1_TwoKinds k2_TwoKinds k3_TwoKinds k5_TwoKinds : Option Value}
    {nm_Unfilled qn_Unfilled : Str} {N_Unfilled : Addr} {bs_Unfilled : List Value} {sn_Unfilled : List Str} {sub_Unfilled : List Value} {ab_Unfilled : Bool} {col_Unfilled : Option Bool} {dd_Unfilled : Option Addr} {k0_Unfilled k1_Unfilled k2_Unfilled k3_Unfilled k5_Unfilled : Option Value}
    {nm_WireError qn_WireError : Str} {N_WireError : Addr} {bs_WireError : List Value} {sn_WireError : List Str} {sub_WireError : List Value} {ab_WireError : Bool} {col_WireError : Option Bool} {dd_WireError : Option Addr} {k0_WireError k1_WireError k2_WireError k3_WireError k5_WireError : Option Value}
    {nm_WrongKind qn_WrongKind : Str} {N_WrongKind : Addr} {bs_WrongKind : List Value} {sn_WrongKind : List Str} {sub_WrongKind : List Value} {ab_WrongKind : Bool} {col_WrongKind : Option Bool} {dd_WrongKind : Option Addr} {k0_WrongKind k1_WrongKind k2_WrongKind k3_WrongKind k5_WrongKind : Option Value}
    {nm_WrongSize qn_WrongSize : Str} {N_WrongSize : Addr} {bs_WrongSize : List Value} {sn_WrongSize : List Str} {sub_WrongSize : List Value} {ab_WrongSize : Bool} {col_WrongSize : Option Bool} {dd_WrongSize : Option Addr} {k0_WrongSize k1_WrongSize k2_WrongSize k3_WrongSize k5_WrongSize : Option Value}
    {od_NoSize_init an_NoSize_init : Option Addr} {sl_NoSize_init : Array (Option Value)} {oc_NoSize_init kV_NoSize_init dc_NoSize_init pm_NoSize_init cd_NoSize_init ct_NoSize_init : Value}
    {od_NoRing_init an_NoRing_init : Option Addr} {sl_NoRing_init : Array (Option Value)} {oc_NoRing_init kV_NoRing_init dc_NoRing_init pm_NoRing_init cd_NoRing_init ct_NoRing_init : Value}
    {od_NoPlace_init an_NoPlace_init : Option Addr} {sl_NoPlace_init : Array (Option Value)} {oc_NoPlace_init kV_NoPlace_init dc_NoPlace_init pm_NoPlace_init cd_NoPlace_init ct_NoPlace_init : Value}
    {od_WrongSize_init an_WrongSize_init : Option Addr} {sl_WrongSize_init : Array (Option Value)} {oc_WrongSize_init kV_WrongSize_init dc_WrongSize_init pm_WrongSize_init cd_WrongSize_init ct_WrongSize_init : Value}
    {od_NoText_init an_NoText_init : Option Addr} {sl_NoText_init : Array (Option Value)} {oc_NoText_init kV_NoText_init dc_NoText_init pm_NoText_init cd_NoText_init ct_NoText_init : Value}
    {od_NoName_init an_NoName_init : Option Addr} {sl_NoName_init : Array (Option Value)} {oc_NoName_init kV_NoName_init dc_NoName_init pm_NoName_init cd_NoName_init ct_NoName_init : Value}
    {od_NoKind_init an_NoKind_init : Option Addr} {sl_NoKind_init : Array (Option Value)} {oc_NoKind_init kV_NoKind_init dc_NoKind_init pm_NoKind_init cd_NoKind_init ct_NoKind_init : Value}
    {od_NoMost_init an_NoMost_init : Option Addr} {sl_NoMost_init : Array (Option Value)} {oc_NoMost_init kV_NoMost_init dc_NoMost_init pm_NoMost_init cd_NoMost_init ct_NoMost_init : Value}
    {od_TwoKinds_init an_TwoKinds_init : Option Addr} {sl_TwoKinds_init : Array (Option Value)} {oc_TwoKinds_init kV_TwoKinds_init dc_TwoKinds_init pm_TwoKinds_init cd_TwoKinds_init ct_TwoKinds_init : Value}
    {od_NoPart_init an_NoPart_init : Option Addr} {sl_NoPart_init : Array (Option Value)} {oc_NoPart_init kV_NoPart_init dc_NoPart_init pm_NoPart_init cd_NoPart_init ct_NoPart_init : Value}
    {od_Unfilled_init an_Unfilled_init : Option Addr} {sl_Unfilled_init : Array (Option Value)} {oc_Unfilled_init kV_Unfilled_init dc_Unfilled_init pm_Unfilled_init cd_Unfilled_init ct_Unfilled_init : Value}
    {od_WrongKind_init an_WrongKind_init : Option Addr} {sl_WrongKind_init : Array (Option Value)} {oc_WrongKind_init kV_WrongKind_init dc_WrongKind_init pm_WrongKind_init cd_WrongKind_init ct_WrongKind_init : Value}
    {od_NoValue_init an_NoValue_init : Option Addr} {sl_NoValue_init : Array (Option Value)} {oc_NoValue_init kV_NoValue_init dc_NoValue_init pm_NoValue_init cd_NoValue_init ct_NoValue_init : Value}
    {od_NoShare_init an_NoShare_init : Option Addr} {sl_NoShare_init : Array (Option Value)} {oc_NoShare_init kV_NoShare_init dc_NoShare_init pm_NoShare_init cd_NoShare_init ct_NoShare_init : Value}
    {od_NoSighting_init an_NoSighting_init : Option Addr} {sl_NoSighting_init : Array (Option Value)} {oc_NoSighting_init kV_NoSighting_init dc_NoSighting_init pm_NoSighting_init cd_NoSighting_init ct_NoSighting_init : Value}
    {od_NoHalves_init an_NoHalves_init : Option Addr} {sl_NoHalves_init : Array (Option Value)} {oc_NoHalves_init kV_NoHalves_init dc_NoHalves_init pm_NoHalves_init cd_NoHalves_init ct_NoHalves_init : Value}
    {od_l_cell an_l_cell : Option Addr} {sl_l_cell : Array (Option Value)} {oc_l_cell kV_l_cell dc_l_cell pm_l_cell cd_l_cell ct_l_cell : Value}
    {od_l_kinds an_l_kinds : Option Addr} {sl_l_kinds : Array (Option Value)} {oc_l_kinds kV_l_kinds dc_l_kinds pm_l_kinds cd_l_kinds ct_l_kinds : Value}
    {od_l_made an_l_made : Option Addr} {sl_l_made : Array (Option Value)} {oc_l_made kV_l_made dc_l_made pm_l_made cd_l_made ct_l_made : Value}
    {od_l_held an_l_held : Option Addr} {sl_l_held : Array (Option Value)} {oc_l_held kV_l_held dc_l_held pm_l_held cd_l_held ct_l_held : Value}
    {od_law an_law : Option Addr} {sl_law : Array (Option Value)} {oc_law kV_law dc_law pm_law cd_law ct_law : Value}
    (g_NoHalves : PySem.W.nsIn K mainGlobals "NoHalves" = some (some (.ref C_NoHalves)))
    (g_NoKind : PySem.W.nsIn K mainGlobals "NoKind" = some (some (.ref C_NoKind)))
    (g_NoMost : PySem.W.nsIn K mainGlobals "NoMost" = some (some (.ref C_NoMost)))
    (g_NoName : PySem.W.nsIn K mainGlobals "NoName" = some (some (.ref C_NoName)))
    (g_NoPart : PySem.W.nsIn K mainGlobals "NoPart" = some (some (.ref C_NoPart)))
    (g_NoPlace : PySem.W.nsIn K mainGlobals "NoPlace" = some (some (.ref C_NoPlace)))
    (g_NoQuot : PySem.W.nsIn K mainGlobals "NoQuot" = some (some (.ref C_NoQuot)))
    (g_NoRing : PySem.W.nsIn K mainGlobals "NoRing" = some (some (.ref C_NoRing)))
    (g_NoShare : PySem.W.nsIn K mainGlobals "NoShare" = some (some (.ref C_NoShare)))
    (g_NoSighting : PySem.W.nsIn K mainGlobals "NoSighting" = some (some (.ref C_NoSighting)))
    (g_NoSize : PySem.W.nsIn K mainGlobals "NoSize" = some (some (.ref C_NoSize)))
    (g_NoText : PySem.W.nsIn K mainGlobals "NoText" = some (some (.ref C_NoText)))
    (g_NoValue : PySem.W.nsIn K mainGlobals "NoValue" = some (some (.ref C_NoValue)))
    (g_TwoKinds : PySem.W.nsIn K mainGlobals "TwoKinds" = some (some (.ref C_TwoKinds)))
    (g_Unfilled : PySem.W.nsIn K mainGlobals "Unfilled" = some (some (.ref C_Unfilled)))
    (g_WireError : PySem.W.nsIn K mainGlobals "WireError" = some (some (.ref C_WireError)))
    (g_WrongKind : PySem.W.nsIn K mainGlobals "WrongKind" = some (some (.ref C_WrongKind)))
    (g_WrongSize : PySem.W.nsIn K mainGlobals "WrongSize" = some (some (.ref C_WrongSize)))
    (x_NoHalves : K.lookup C_NoHalves = some (excClassObj nm_NoHalves qn_NoHalves C_NoHalves N_NoHalves bs_NoHalves [.ref C_WireError, .type "ValueError", .type "Exception", .type "BaseException", .type "object"] true sn_NoHalves sub_NoHalves ab_NoHalves col_NoHalves dd_NoHalves k0_NoHalves k1_NoHalves k2_NoHalves k3_NoHalves k5_NoHalves "ValueError.__new__"))
    (kc_NoHalves : PySem.W.keepIn K (.ref C_NoHalves) = true)
    (sa_NoHalves : PySem.W.findIn K (.ref C_NoHalves) "__setattr__" = some (some (.builtin "object.__setattr__")))
    (ga_NoHalves : PySem.W.findIn K (.ref C_NoHalves) "__getattribute__" = some (some (.builtin "BaseException.__getattribute__")))
    (gg_NoHalves : PySem.W.findIn K (.ref C_NoHalves) "__getattr__" = some none)
    (cl_NoHalves : PySem.W.findIn K (.ref C_NoHalves) "__class__" = some (some (.builtin "object.__class__")))
    (no_NoHalves : PySem.W.findIn K (.ref C_NoHalves) "length" = some none)
    (x_NoKind : K.lookup C_NoKind = some (excClassObj nm_NoKind qn_NoKind C_NoKind N_NoKind bs_NoKind [.ref C_WireError, .type "ValueError", .type "Exception", .type "BaseException", .type "object"] true sn_NoKind sub_NoKind ab_NoKind col_NoKind dd_NoKind k0_NoKind k1_NoKind k2_NoKind k3_NoKind k5_NoKind "ValueError.__new__"))
    (kc_NoKind : PySem.W.keepIn K (.ref C_NoKind) = true)
    (sa_NoKind : PySem.W.findIn K (.ref C_NoKind) "__setattr__" = some (some (.builtin "object.__setattr__")))
    (ga_NoKind : PySem.W.findIn K (.ref C_NoKind) "__getattribute__" = some (some (.builtin "BaseException.__getattribute__")))
    (gg_NoKind : PySem.W.findIn K (.ref C_NoKind) "__getattr__" = some none)
    (cl_NoKind : PySem.W.findIn K (.ref C_NoKind) "__class__" = some (some (.builtin "object.__class__")))
    (no_NoKind : PySem.W.findIn K (.ref C_NoKind) "kind" = some none)
    (x_NoMost : K.lookup C_NoMost = some (excClassObj nm_NoMost qn_NoMost C_NoMost N_NoMost bs_NoMost [.ref C_WireError, .type "ValueError", .type "Exception", .type "BaseException", .type "object"] true sn_NoMost sub_NoMost ab_NoMost col_NoMost dd_NoMost k0_NoMost k1_NoMost k2_NoMost k3_NoMost k5_NoMost "ValueError.__new__"))
    (kc_NoMost : PySem.W.keepIn K (.ref C_NoMost) = true)
    (sa_NoMost : PySem.W.findIn K (.ref C_NoMost) "__setattr__" = some (some (.builtin "object.__setattr__")))
    (ga_NoMost : PySem.W.findIn K (.ref C_NoMost) "__getattribute__" = some (some (.builtin "BaseException.__getattribute__")))
    (gg_NoMost : PySem.W.findIn K (.ref C_NoMost) "__getattr__" = some none)
    (cl_NoMost : PySem.W.findIn K (.ref C_NoMost) "__class__" = some (some (.builtin "object.__class__")))
    (no_NoMost : PySem.W.findIn K (.ref C_NoMost) "most" = some none)
    (x_NoName : K.lookup C_NoName = some (excClassObj nm_NoName qn_NoName C_NoName N_NoName bs_NoName [.ref C_WireError, .type "ValueError", .type "Exception", .type "BaseException", .type "object"] true sn_NoName sub_NoName ab_NoName col_NoName dd_NoName k0_NoName k1_NoName k2_NoName k3_NoName k5_NoName "ValueError.__new__"))
    (kc_NoName : PySem.W.keepIn K (.ref C_NoName) = true)
    (sa_NoName : PySem.W.findIn K (.ref C_NoName) "__setattr__" = some (some (.builtin "object.__setattr__")))
    (ga_NoName : PySem.W.findIn K (.ref C_NoName) "__getattribute__" = some (some (.builtin "BaseException.__getattribute__")))
    (gg_NoName : PySem.W.findIn K (.ref C_NoName) "__getattr__" = some none)
    (cl_NoName : PySem.W.findIn K (.ref C_NoName) "__class__" = some (some (.builtin "object.__class__")))
    (no_NoName : PySem.W.findIn K (.ref C_NoName) "name" = some none)
    (x_NoPart : K.lookup C_NoPart = some (excClassObj nm_NoPart qn_NoPart C_NoPart N_NoPart bs_NoPart [.ref C_WireError, .type "ValueError", .type "Exception", .type "BaseException", .type "object"] true sn_NoPart sub_NoPart ab_NoPart col_NoPart dd_NoPart k0_NoPart k1_NoPart k2_NoPart k3_NoPart k5_NoPart "ValueError.__new__"))
    (kc_NoPart : PySem.W.keepIn K (.ref C_NoPart) = true)
    (sa_NoPart : PySem.W.findIn K (.ref C_NoPart) "__setattr__" = some (some (.builtin "object.__setattr__")))
    (ga_NoPart : PySem.W.findIn K (.ref C_NoPart) "__getattribute__" = some (some (.builtin "BaseException.__getattribute__")))
    (gg_NoPart : PySem.W.findIn K (.ref C_NoPart) "__getattr__" = some none)
    (cl_NoPart : PySem.W.findIn K (.ref C_NoPart) "__class__" = some (some (.builtin "object.__class__")))
    (no_NoPart : PySem.W.findIn K (.ref C_NoPart) "part" = some none)
    (x_NoPlace : K.lookup C_NoPlace = some (excClassObj nm_NoPlace qn_NoPlace C_NoPlace N_NoPlace bs_NoPlace [.ref C_WireError, .type "ValueError", .type "Exception", .type "BaseException", .type "object"] true sn_NoPlace sub_NoPlace ab_NoPlace col_NoPlace dd_NoPlace k0_NoPlace k1_NoPlace k2_NoPlace k3_NoPlace k5_NoPlace "ValueError.__new__"))
    (kc_NoPlace : PySem.W.keepIn K (.ref C_NoPlace) = true)
    (sa_NoPlace : PySem.W.findIn K (.ref C_NoPlace) "__setattr__" = some (some (.builtin "object.__setattr__")))
    (ga_NoPlace : PySem.W.findIn K (.ref C_NoPlace) "__getattribute__" = some (some (.builtin "BaseException.__getattribute__")))
    (gg_NoPlace : PySem.W.findIn K (.ref C_NoPlace) "__getattr__" = some none)
    (cl_NoPlace : PySem.W.findIn K (.ref C_NoPlace) "__class__" = some (some (.builtin "object.__class__")))
    (no_NoPlace : PySem.W.findIn K (.ref C_NoPlace) "place" = some none)
    (x_NoQuot : K.lookup C_NoQuot = some (excClassObj nm_NoQuot qn_NoQuot C_NoQuot N_NoQuot bs_NoQuot [.ref C_WireError, .type "ValueError", .type "Exception", .type "BaseException", .type "object"] true sn_NoQuot sub_NoQuot ab_NoQuot col_NoQuot dd_NoQuot k0_NoQuot k1_NoQuot k2_NoQuot k3_NoQuot k5_NoQuot "ValueError.__new__"))
    (kc_NoQuot : PySem.W.keepIn K (.ref C_NoQuot) = true)
    (sa_NoQuot : PySem.W.findIn K (.ref C_NoQuot) "__setattr__" = some (some (.builtin "object.__setattr__")))
    (ga_NoQuot : PySem.W.findIn K (.ref C_NoQuot) "__getattribute__" = some (some (.builtin "BaseException.__getattribute__")))
    (gg_NoQuot : PySem.W.findIn K (.ref C_NoQuot) "__getattr__" = some none)
    (cl_NoQuot : PySem.W.findIn K (.ref C_NoQuot) "__class__" = some (some (.builtin "object.__class__")))
    (x_NoRing : K.lookup C_NoRing = some (excClassObj nm_NoRing qn_NoRing C_NoRing N_NoRing bs_NoRing [.ref C_WireError, .type "ValueError", .type "Exception", .type "BaseException", .type "object"] true sn_NoRing sub_NoRing ab_NoRing col_NoRing dd_NoRing k0_NoRing k1_NoRing k2_NoRing k3_NoRing k5_NoRing "ValueError.__new__"))
    (kc_NoRing : PySem.W.keepIn K (.ref C_NoRing) = true)
    (sa_NoRing : PySem.W.findIn K (.ref C_NoRing) "__setattr__" = some (some (.builtin "object.__setattr__")))
    (ga_NoRing : PySem.W.findIn K (.ref C_NoRing) "__getattribute__" = some (some (.builtin "BaseException.__getattribute__")))
    (gg_NoRing : PySem.W.findIn K (.ref C_NoRing) "__getattr__" = some none)
    (cl_NoRing : PySem.W.findIn K (.ref C_NoRing) "__class__" = some (some (.builtin "object.__class__")))
    (no_NoRing : PySem.W.findIn K (.ref C_NoRing) "index" = some none)
    (x_NoShare : K.lookup C_NoShare = some (excClassObj nm_NoShare qn_NoShare C_NoShare N_NoShare bs_NoShare [.ref C_WireError, .type "ValueError", .type "Exception", .type "BaseException", .type "object"] true sn_NoShare sub_NoShare ab_NoShare col_NoShare dd_NoShare k0_NoShare k1_NoShare k2_NoShare k3_NoShare k5_NoShare "ValueError.__new__"))
    (kc_NoShare : PySem.W.keepIn K (.ref C_NoShare) = true)
    (sa_NoShare : PySem.W.findIn K (.ref C_NoShare) "__setattr__" = some (some (.builtin "object.__setattr__")))
    (ga_NoShare : PySem.W.findIn K (.ref C_NoShare) "__getattribute__" = some (some (.builtin "BaseException.__getattribute__")))
    (gg_NoShare : PySem.W.findIn K (.ref C_NoShare) "__getattr__" = some none)
    (cl_NoShare : PySem.W.findIn K (.ref C_NoShare) "__class__" = some (some (.builtin "object.__class__")))
    (no_NoShare : PySem.W.findIn K (.ref C_NoShare) "name" = some none)
    (x_NoSighting : K.lookup C_NoSighting = some (excClassObj nm_NoSighting qn_NoSighting C_NoSighting N_NoSighting bs_NoSighting [.ref C_WireError, .type "ValueError", .type "Exception", .type "BaseException", .type "object"] true sn_NoSighting sub_NoSighting ab_NoSighting col_NoSighting dd_NoSighting k0_NoSighting k1_NoSighting k2_NoSighting k3_NoSighting k5_NoSighting "ValueError.__new__"))
    (kc_NoSighting : PySem.W.keepIn K (.ref C_NoSighting) = true)
    (sa_NoSighting : PySem.W.findIn K (.ref C_NoSighting) "__setattr__" = some (some (.builtin "object.__setattr__")))
    (ga_NoSighting : PySem.W.findIn K (.ref C_NoSighting) "__getattribute__" = some (some (.builtin "BaseException.__getattribute__")))
    (gg_NoSighting : PySem.W.findIn K (.ref C_NoSighting) "__getattr__" = some none)
    (cl_NoSighting : PySem.W.findIn K (.ref C_NoSighting) "__class__" = some (some (.builtin "object.__class__")))
    (no_NoSighting : PySem.W.findIn K (.ref C_NoSighting) "k" = some none)
    (x_NoSize : K.lookup C_NoSize = some (excClassObj nm_NoSize qn_NoSize C_NoSize N_NoSize bs_NoSize [.ref C_WireError, .type "ValueError", .type "Exception", .type "BaseException", .type "object"] true sn_NoSize sub_NoSize ab_NoSize col_NoSize dd_NoSize k0_NoSize k1_NoSize k2_NoSize k3_NoSize k5_NoSize "ValueError.__new__"))
    (kc_NoSize : PySem.W.keepIn K (.ref C_NoSize) = true)
    (sa_NoSize : PySem.W.findIn K (.ref C_NoSize) "__setattr__" = some (some (.builtin "object.__setattr__")))
    (ga_NoSize : PySem.W.findIn K (.ref C_NoSize) "__getattribute__" = some (some (.builtin "BaseException.__getattribute__")))
    (gg_NoSize : PySem.W.findIn K (.ref C_NoSize) "__getattr__" = some none)
    (cl_NoSize : PySem.W.findIn K (.ref C_NoSize) "__class__" = some (some (.builtin "object.__class__")))
    (no_NoSize : PySem.W.findIn K (.ref C_NoSize) "size" = some none)
    (x_NoText : K.lookup C_NoText = some (excClassObj nm_NoText qn_NoText C_NoText N_NoText bs_NoText [.ref C_WireError, .type "ValueError", .type "Exception", .type "BaseException", .type "object"] true sn_NoText sub_NoText ab_NoText col_NoText dd_NoText k0_NoText k1_NoText k2_NoText k3_NoText k5_NoText "ValueError.__new__"))
    (kc_NoText : PySem.W.keepIn K (.ref C_NoText) = true)
    (sa_NoText : PySem.W.findIn K (.ref C_NoText) "__setattr__" = some (some (.builtin "object.__setattr__")))
    (ga_NoText : PySem.W.findIn K (.ref C_NoText) "__getattribute__" = some (some (.builtin "BaseException.__getattribute__")))
    (gg_NoText : PySem.W.findIn K (.ref C_NoText) "__getattr__" = some none)
    (cl_NoText : PySem.W.findIn K (.ref C_NoText) "__class__" = some (some (.builtin "object.__class__")))
    (no_NoText : PySem.W.findIn K (.ref C_NoText) "text" = some none)
    (x_NoValue : K.lookup C_NoValue = some (excClassObj nm_NoValue qn_NoValue C_NoValue N_NoValue bs_NoValue [.ref C_WireError, .type "ValueError", .type "Exception", .type "BaseException", .type "object"] true sn_NoValue sub_NoValue ab_NoValue col_NoValue dd_NoValue k0_NoValue k1_NoValue k2_NoValue k3_NoValue k5_NoValue "ValueError.__new__"))
    (kc_NoValue : PySem.W.keepIn K (.ref C_NoValue) = true)
    (sa_NoValue : PySem.W.findIn K (.ref C_NoValue) "__setattr__" = some (some (.builtin "object.__setattr__")))
    (ga_NoValue : PySem.W.findIn K (.ref C_NoValue) "__getattribute__" = some (some (.builtin "BaseException.__getattribute__")))
    (gg_NoValue : PySem.W.findIn K (.ref C_NoValue) "__getattr__" = some none)
    (cl_NoValue : PySem.W.findIn K (.ref C_NoValue) "__class__" = some (some (.builtin "object.__class__")))
    (no_NoValue : PySem.W.findIn K (.ref C_NoValue) "n" = some none)
    (x_TwoKinds : K.lookup C_TwoKinds = some (excClassObj nm_TwoKinds qn_TwoKinds C_TwoKinds N_TwoKinds bs_TwoKinds [.ref C_WireError, .type "ValueError", .type "Exception", .type "BaseException", .type "object"] true sn_TwoKinds sub_TwoKinds ab_TwoKinds col_TwoKinds dd_TwoKinds k0_TwoKinds k1_TwoKinds k2_TwoKinds k3_TwoKinds k5_TwoKinds "ValueError.__new__"))
    (kc_TwoKinds : PySem.W.keepIn K (.ref C_TwoKinds) = true)
    (sa_TwoKinds : PySem.W.findIn K (.ref C_TwoKinds) "__setattr__" = some (some (.builtin "object.__setattr__")))
    (ga_TwoKinds : PySem.W.findIn K (.ref C_TwoKinds) "__getattribute__" = some (some (.builtin "BaseException.__getattribute__")))
    (gg_TwoKinds : PySem.W.findIn K (.ref C_TwoKinds) "__getattr__" = some none)
    (cl_TwoKinds : PySem.W.findIn K (.ref C_TwoKinds) "__class__" = some (some (.builtin "object.__class__")))
    (no_TwoKinds : PySem.W.findIn K (.ref C_TwoKinds) "name" = some none)
    (x_Unfilled : K.lookup C_Unfilled = some (excClassObj nm_Unfilled qn_Unfilled C_Unfilled N_Unfilled bs_Unfilled [.ref C_WireError, .type "ValueError", .type "Exception", .type "BaseException", .type "object"] true sn_Unfilled sub_Unfilled ab_Unfilled col_Unfilled dd_Unfilled k0_Unfilled k1_Unfilled k2_Unfilled k3_Unfilled k5_Unfilled "ValueError.__new__"))
    (kc_Unfilled : PySem.W.keepIn K (.ref C_Unfilled) = true)
    (sa_Unfilled : PySem.W.findIn K (.ref C_Unfilled) "__setattr__" = some (some (.builtin "object.__setattr__")))
    (ga_Unfilled : PySem.W.findIn K (.ref C_Unfilled) "__getattribute__" = some (some (.builtin "BaseException.__getattribute__")))
    (gg_Unfilled : PySem.W.findIn K (.ref C_Unfilled) "__getattr__" = some none)
    (cl_Unfilled : PySem.W.findIn K (.ref C_Unfilled) "__class__" = some (some (.builtin "object.__class__")))
    (no_Unfilled : PySem.W.findIn K (.ref C_Unfilled) "name" = some none)
    (x_WireError : K.lookup C_WireError = some (excClassObj nm_WireError qn_WireError C_WireError N_WireError bs_WireError [.type "ValueError", .type "Exception", .type "BaseException", .type "object"] true sn_WireError sub_WireError ab_WireError col_WireError dd_WireError k0_WireError k1_WireError k2_WireError k3_WireError k5_WireError "ValueError.__new__"))
    (x_WrongKind : K.lookup C_WrongKind = some (excClassObj nm_WrongKind qn_WrongKind C_WrongKind N_WrongKind bs_WrongKind [.ref C_WireError, .type "ValueError", .type "Exception", .type "BaseException", .type "object"] true sn_WrongKind sub_WrongKind ab_WrongKind col_WrongKind dd_WrongKind k0_WrongKind k1_WrongKind k2_WrongKind k3_WrongKind k5_WrongKind "ValueError.__new__"))
    (kc_WrongKind : PySem.W.keepIn K (.ref C_WrongKind) = true)
    (sa_WrongKind : PySem.W.findIn K (.ref C_WrongKind) "__setattr__" = some (some (.builtin "object.__setattr__")))
    (ga_WrongKind : PySem.W.findIn K (.ref C_WrongKind) "__getattribute__" = some (some (.builtin "BaseException.__getattribute__")))
    (gg_WrongKind : PySem.W.findIn K (.ref C_WrongKind) "__getattr__" = some none)
    (cl_WrongKind : PySem.W.findIn K (.ref C_WrongKind) "__class__" = some (some (.builtin "object.__class__")))
    (no_WrongKind : PySem.W.findIn K (.ref C_WrongKind) "name" = some none)
    (x_WrongSize : K.lookup C_WrongSize = some (excClassObj nm_WrongSize qn_WrongSize C_WrongSize N_WrongSize bs_WrongSize [.ref C_WireError, .type "ValueError", .type "Exception", .type "BaseException", .type "object"] true sn_WrongSize sub_WrongSize ab_WrongSize col_WrongSize dd_WrongSize k0_WrongSize k1_WrongSize k2_WrongSize k3_WrongSize k5_WrongSize "ValueError.__new__"))
    (kc_WrongSize : PySem.W.keepIn K (.ref C_WrongSize) = true)
    (sa_WrongSize : PySem.W.findIn K (.ref C_WrongSize) "__setattr__" = some (some (.builtin "object.__setattr__")))
    (ga_WrongSize : PySem.W.findIn K (.ref C_WrongSize) "__getattribute__" = some (some (.builtin "BaseException.__getattribute__")))
    (gg_WrongSize : PySem.W.findIn K (.ref C_WrongSize) "__getattr__" = some none)
    (cl_WrongSize : PySem.W.findIn K (.ref C_WrongSize) "__class__" = some (some (.builtin "object.__class__")))
    (no_WrongSize : PySem.W.findIn K (.ref C_WrongSize) "size" = some none)
    (hget : PySem.W.specialIn K (.builtin "object.__class__") "__get__" = some (some (.builtin "getset_descriptor.__get__")))
    (htk : PySem.W.takesIn K (.builtin "object.__class__") = some true)
    (nod : [C_NoSize, C_NoRing, C_NoPlace, C_WrongSize, C_NoText, C_NoName, C_NoKind, C_NoMost, C_TwoKinds, C_NoPart, C_Unfilled, C_WrongKind, C_NoValue, C_NoShare, C_NoSighting, C_NoHalves, C_NoQuot, C_WireError].Nodup)
    (q_NoQuot : PySem.W.excIn K C_NoQuot [.type "ValueError", .type "Exception", .type "BaseException", .type "object"] "ValueError.__new__" = true)
    (z_len : PySem.W.nsIn K mainGlobals "len" = some none)
    (z_range : PySem.W.nsIn K mainGlobals "range" = some none)
    (z_int : PySem.W.nsIn K mainGlobals "int" = some none)
    (z_list : PySem.W.nsIn K mainGlobals "list" = some none)
    (z_enumerate : PySem.W.nsIn K mainGlobals "enumerate" = some none)
    (z_dict : PySem.W.nsIn K mainGlobals "dict" = some none)
    (z_zip : PySem.W.nsIn K mainGlobals "zip" = some none)
    (z_set : PySem.W.nsIn K mainGlobals "set" = some none)
    (z_sorted : PySem.W.nsIn K mainGlobals "sorted" = some none)
    (z_all : PySem.W.nsIn K mainGlobals "all" = some none)
    (z_abs : PySem.W.nsIn K mainGlobals "abs" = some none)
    (z_isinstance : PySem.W.nsIn K mainGlobals "isinstance" = some none)
    (z_bool : PySem.W.nsIn K mainGlobals "bool" = some none)
    (z_str : PySem.W.nsIn K mainGlobals "str" = some none)
    (z_ValueError : PySem.W.nsIn K mainGlobals "ValueError" = some none)
    (a_NoSize_init : PySem.W.findIn K (.ref C_NoSize) "__init__" = some (some (.ref f_NoSize_init)))
    (i_NoSize_init : PySem.W.typeIn K (.ref f_NoSize_init) = some (.type "function"))
    (l_NoSize_init : K.lookup f_NoSize_init = some ⟨oc_NoSize_init, od_NoSize_init, .func (PySem.W.fnOf "__init__" "NoSize.__init__" (defArgs s_NoSize_init) (defBody s_NoSize_init) (defScope s_NoSize_init) .none kV_NoSize_init dc_NoSize_init pm_NoSize_init an_NoSize_init cd_NoSize_init ct_NoSize_init), sl_NoSize_init⟩)
    (c_NoSize_init : PySem.W.codeIn K cd_NoSize_init "NoSize.__init__" = true)
    (k_NoSize_init : PySem.W.keepIn K (.ref f_NoSize_init) = true)
    (a_NoRing_init : PySem.W.findIn K (.ref C_NoRing) "__init__" = some (some (.ref f_NoRing_init)))
    (i_NoRing_init : PySem.W.typeIn K (.ref f_NoRing_init) = some (.type "function"))
    (l_NoRing_init : K.lookup f_NoRing_init = some ⟨oc_NoRing_init, od_NoRing_init, .func (PySem.W.fnOf "__init__" "NoRing.__init__" (defArgs s_NoRing_init) (defBody s_NoRing_init) (defScope s_NoRing_init) .none kV_NoRing_init dc_NoRing_init pm_NoRing_init an_NoRing_init cd_NoRing_init ct_NoRing_init), sl_NoRing_init⟩)
    (c_NoRing_init : PySem.W.codeIn K cd_NoRing_init "NoRing.__init__" = true)
    (k_NoRing_init : PySem.W.keepIn K (.ref f_NoRing_init) = true)
    (a_NoPlace_init : PySem.W.findIn K (.ref C_NoPlace) "__init__" = some (some (.ref f_NoPlace_init)))
    (i_NoPlace_init : PySem.W.typeIn K (.ref f_NoPlace_init) = some (.type "function"))
    (l_NoPlace_init : K.lookup f_NoPlace_init = some ⟨oc_NoPlace_init, od_NoPlace_init, .func (PySem.W.fnOf "__init__" "NoPlace.__init__" (defArgs s_NoPlace_init) (defBody s_NoPlace_init) (defScope s_NoPlace_init) .none kV_NoPlace_init dc_NoPlace_init pm_NoPlace_init an_NoPlace_init cd_NoPlace_init ct_NoPlace_init), sl_NoPlace_init⟩)
    (c_NoPlace_init : PySem.W.codeIn K cd_NoPlace_init "NoPlace.__init__" = true)
    (k_NoPlace_init : PySem.W.keepIn K (.ref f_NoPlace_init) = true)
    (a_WrongSize_init : PySem.W.findIn K (.ref C_WrongSize) "__init__" = some (some (.ref f_WrongSize_init)))
    (i_WrongSize_init : PySem.W.typeIn K (.ref f_WrongSize_init) = some (.type "function"))
    (l_WrongSize_init : K.lookup f_WrongSize_init = some ⟨oc_WrongSize_init, od_WrongSize_init, .func (PySem.W.fnOf "__init__" "WrongSize.__init__" (defArgs s_WrongSize_init) (defBody s_WrongSize_init) (defScope s_WrongSize_init) .none kV_WrongSize_init dc_WrongSize_init pm_WrongSize_init an_WrongSize_init cd_WrongSize_init ct_WrongSize_init), sl_WrongSize_init⟩)
    (c_WrongSize_init : PySem.W.codeIn K cd_WrongSize_init "WrongSize.__init__" = true)
    (k_WrongSize_init : PySem.W.keepIn K (.ref f_WrongSize_init) = true)
    (a_NoText_init : PySem.W.findIn K (.ref C_NoText) "__init__" = some (some (.ref f_NoText_init)))
    (i_NoText_init : PySem.W.typeIn K (.ref f_NoText_init) = some (.type "function"))
    (l_NoText_init : K.lookup f_NoText_init = some ⟨oc_NoText_init, od_NoText_init, .func (PySem.W.fnOf "__init__" "NoText.__init__" (defArgs s_NoText_init) (defBody s_NoText_init) (defScope s_NoText_init) .none kV_NoText_init dc_NoText_init pm_NoText_init an_NoText_init cd_NoText_init ct_NoText_init), sl_NoText_init⟩)
    (c_NoText_init : PySem.W.codeIn K cd_NoText_init "NoText.__init__" = true)
    (k_NoText_init : PySem.W.keepIn K (.ref f_NoText_init) = true)
    (a_NoName_init : PySem.W.findIn K (.ref C_NoName) "__init__" = some (some (.ref f_NoName_init)))
    (i_NoName_init : PySem.W.typeIn K (.ref f_NoName_init) = some (.type "function"))
    (l_NoName_init : K.lookup f_NoName_init = some ⟨oc_NoName_init, od_NoName_init, .func (PySem.W.fnOf "__init__" "NoName.__init__" (defArgs s_NoName_init) (defBody s_NoName_init) (defScope s_NoName_init) .none kV_NoName_init dc_NoName_init pm_NoName_init an_NoName_init cd_NoName_init ct_NoName_init), sl_NoName_init⟩)
    (c_NoName_init : PySem.W.codeIn K cd_NoName_init "NoName.__init__" = true)
    (k_NoName_init : PySem.W.keepIn K (.ref f_NoName_init) = true)
    (a_NoKind_init : PySem.W.findIn K (.ref C_NoKind) "__init__" = some (some (.ref f_NoKind_init)))
    (i_NoKind_init : PySem.W.typeIn K (.ref f_NoKind_init) = some (.type "function"))
    (l_NoKind_init : K.lookup f_NoKind_init = some ⟨oc_NoKind_init, od_NoKind_init, .func (PySem.W.fnOf "__init__" "NoKind.__init__" (defArgs s_NoKind_init) (defBody s_NoKind_init) (defScope s_NoKind_init) .none kV_NoKind_init dc_NoKind_init pm_NoKind_init an_NoKind_init cd_NoKind_init ct_NoKind_init), sl_NoKind_init⟩)
    (c_NoKind_init : PySem.W.codeIn K cd_NoKind_init "NoKind.__init__" = true)
    (k_NoKind_init : PySem.W.keepIn K (.ref f_NoKind_init) = true)
    (a_NoMost_init : PySem.W.findIn K (.ref C_NoMost) "__init__" = some (some (.ref f_NoMost_init)))
    (i_NoMost_init : PySem.W.typeIn K (.ref f_NoMost_init) = some (.type "function"))
    (l_NoMost_init : K.lookup f_NoMost_init = some ⟨oc_NoMost_init, od_NoMost_init, .func (PySem.W.fnOf "__init__" "NoMost.__init__" (defArgs s_NoMost_init) (defBody s_NoMost_init) (defScope s_NoMost_init) .none kV_NoMost_init dc_NoMost_init pm_NoMost_init an_NoMost_init cd_NoMost_init ct_NoMost_init), sl_NoMost_init⟩)
    (c_NoMost_init : PySem.W.codeIn K cd_NoMost_init "NoMost.__init__" = true)
    (k_NoMost_init : PySem.W.keepIn K (.ref f_NoMost_init) = true)
    (a_TwoKinds_init : PySem.W.findIn K (.ref C_TwoKinds) "__init__" = some (some (.ref f_TwoKinds_init)))
    (i_TwoKinds_init : PySem.W.typeIn K (.ref f_TwoKinds_init) = some (.type "function"))
    (l_TwoKinds_init : K.lookup f_TwoKinds_init = some ⟨oc_TwoKinds_init, od_TwoKinds_init, .func (PySem.W.fnOf "__init__" "TwoKinds.__init__" (defArgs s_TwoKinds_init) (defBody s_TwoKinds_init) (defScope s_TwoKinds_init) .none kV_TwoKinds_init dc_TwoKinds_init pm_TwoKinds_init an_TwoKinds_init cd_TwoKinds_init ct_TwoKinds_init), sl_TwoKinds_init⟩)
    (c_TwoKinds_init : PySem.W.codeIn K cd_TwoKinds_init "TwoKinds.__init__" = true)
    (k_TwoKinds_init : PySem.W.keepIn K (.ref f_TwoKinds_init) = true)
    (a_NoPart_init : PySem.W.findIn K (.ref C_NoPart) "__init__" = some (some (.ref f_NoPart_init)))
    (i_NoPart_init : PySem.W.typeIn K (.ref f_NoPart_init) = some (.type "function"))
    (l_NoPart_init : K.lookup f_NoPart_init = some ⟨oc_NoPart_init, od_NoPart_init, .func (PySem.W.fnOf "__init__" "NoPart.__init__" (defArgs s_NoPart_init) (defBody s_NoPart_init) (defScope s_NoPart_init) .none kV_NoPart_init dc_NoPart_init pm_NoPart_init an_NoPart_init cd_NoPart_init ct_NoPart_init), sl_NoPart_init⟩)
    (c_NoPart_init : PySem.W.codeIn K cd_NoPart_init "NoPart.__init__" = true)
    (k_NoPart_init : PySem.W.keepIn K (.ref f_NoPart_init) = true)
    (a_Unfilled_init : PySem.W.findIn K (.ref C_Unfilled) "__init__" = some (some (.ref f_Unfilled_init)))
    (i_Unfilled_init : PySem.W.typeIn K (.ref f_Unfilled_init) = some (.type "function"))
    (l_Unfilled_init : K.lookup f_Unfilled_init = some ⟨oc_Unfilled_init, od_Unfilled_init, .func (PySem.W.fnOf "__init__" "Unfilled.__init__" (defArgs s_Unfilled_init) (defBody s_Unfilled_init) (defScope s_Unfilled_init) .none kV_Unfilled_init dc_Unfilled_init pm_Unfilled_init an_Unfilled_init cd_Unfilled_init ct_Unfilled_init), sl_Unfilled_init⟩)
    (c_Unfilled_init : PySem.W.codeIn K cd_Unfilled_init "Unfilled.__init__" = true)
    (k_Unfilled_init : PySem.W.keepIn K (.ref f_Unfilled_init) = true)
    (a_WrongKind_init : PySem.W.findIn K (.ref C_WrongKind) "__init__" = some (some (.ref f_WrongKind_init)))
    (i_WrongKind_init : PySem.W.typeIn K (.ref f_WrongKind_init) = some (.type "function"))
    (l_WrongKind_init : K.lookup f_WrongKind_init = some ⟨oc_WrongKind_init, od_WrongKind_init, .func (PySem.W.fnOf "__init__" "WrongKind.__init__" (defArgs s_WrongKind_init) (defBody s_WrongKind_init) (defScope s_WrongKind_init) .none kV_WrongKind_init dc_WrongKind_init pm_WrongKind_init an_WrongKind_init cd_WrongKind_init ct_WrongKind_init), sl_WrongKind_init⟩)
    (c_WrongKind_init : PySem.W.codeIn K cd_WrongKind_init "WrongKind.__init__" = true)
    (k_WrongKind_init : PySem.W.keepIn K (.ref f_WrongKind_init) = true)
    (a_NoValue_init : PySem.W.findIn K (.ref C_NoValue) "__init__" = some (some (.ref f_NoValue_init)))
    (i_NoValue_init : PySem.W.typeIn K (.ref f_NoValue_init) = some (.type "function"))
    (l_NoValue_init : K.lookup f_NoValue_init = some ⟨oc_NoValue_init, od_NoValue_init, .func (PySem.W.fnOf "__init__" "NoValue.__init__" (defArgs s_NoValue_init) (defBody s_NoValue_init) (defScope s_NoValue_init) .none kV_NoValue_init dc_NoValue_init pm_NoValue_init an_NoValue_init cd_NoValue_init ct_NoValue_init), sl_NoValue_init⟩)
    (c_NoValue_init : PySem.W.codeIn K cd_NoValue_init "NoValue.__init__" = true)
    (k_NoValue_init : PySem.W.keepIn K (.ref f_NoValue_init) = true)
    (a_NoShare_init : PySem.W.findIn K (.ref C_NoShare) "__init__" = some (some (.ref f_NoShare_init)))
    (i_NoShare_init : PySem.W.typeIn K (.ref f_NoShare_init) = some (.type "function"))
    (l_NoShare_init : K.lookup f_NoShare_init = some ⟨oc_NoShare_init, od_NoShare_init, .func (PySem.W.fnOf "__init__" "NoShare.__init__" (defArgs s_NoShare_init) (defBody s_NoShare_init) (defScope s_NoShare_init) .none kV_NoShare_init dc_NoShare_init pm_NoShare_init an_NoShare_init cd_NoShare_init ct_NoShare_init), sl_NoShare_init⟩)
    (c_NoShare_init : PySem.W.codeIn K cd_NoShare_init "NoShare.__init__" = true)
    (k_NoShare_init : PySem.W.keepIn K (.ref f_NoShare_init) = true)
    (a_NoSighting_init : PySem.W.findIn K (.ref C_NoSighting) "__init__" = some (some (.ref f_NoSighting_init)))
    (i_NoSighting_init : PySem.W.typeIn K (.ref f_NoSighting_init) = some (.type "function"))
    (l_NoSighting_init : K.lookup f_NoSighting_init = some ⟨oc_NoSighting_init, od_NoSighting_init, .func (PySem.W.fnOf "__init__" "NoSighting.__init__" (defArgs s_NoSighting_init) (defBody s_NoSighting_init) (defScope s_NoSighting_init) .none kV_NoSighting_init dc_NoSighting_init pm_NoSighting_init an_NoSighting_init cd_NoSighting_init ct_NoSighting_init), sl_NoSighting_init⟩)
    (c_NoSighting_init : PySem.W.codeIn K cd_NoSighting_init "NoSighting.__init__" = true)
    (k_NoSighting_init : PySem.W.keepIn K (.ref f_NoSighting_init) = true)
    (a_NoHalves_init : PySem.W.findIn K (.ref C_NoHalves) "__init__" = some (some (.ref f_NoHalves_init)))
    (i_NoHalves_init : PySem.W.typeIn K (.ref f_NoHalves_init) = some (.type "function"))
    (l_NoHalves_init : K.lookup f_NoHalves_init = some ⟨oc_NoHalves_init, od_NoHalves_init, .func (PySem.W.fnOf "__init__" "NoHalves.__init__" (defArgs s_NoHalves_init) (defBody s_NoHalves_init) (defScope s_NoHalves_init) .none kV_NoHalves_init dc_NoHalves_init pm_NoHalves_init an_NoHalves_init cd_NoHalves_init ct_NoHalves_init), sl_NoHalves_init⟩)
    (c_NoHalves_init : PySem.W.codeIn K cd_NoHalves_init "NoHalves.__init__" = true)
    (k_NoHalves_init : PySem.W.keepIn K (.ref f_NoHalves_init) = true)
    (a_l_cell : PySem.W.nsIn K mainGlobals "_law_cell" = some (some (.ref f_l_cell)))
    (l_l_cell : K.lookup f_l_cell = some ⟨oc_l_cell, od_l_cell, .func (PySem.W.fnOf "_law_cell" "_law_cell" (defArgs s_l_cell) (defBody s_l_cell) (defScope s_l_cell) .none kV_l_cell dc_l_cell pm_l_cell an_l_cell cd_l_cell ct_l_cell), sl_l_cell⟩)
    (c_l_cell : PySem.W.codeIn K cd_l_cell "_law_cell" = true)
    (k_l_cell : PySem.W.keepIn K (.ref f_l_cell) = true)
    (a_l_kinds : PySem.W.nsIn K mainGlobals "_law_kinds" = some (some (.ref f_l_kinds)))
    (l_l_kinds : K.lookup f_l_kinds = some ⟨oc_l_kinds, od_l_kinds, .func (PySem.W.fnOf "_law_kinds" "_law_kinds" (defArgs s_l_kinds) (defBody s_l_kinds) (defScope s_l_kinds) .none kV_l_kinds dc_l_kinds pm_l_kinds an_l_kinds cd_l_kinds ct_l_kinds), sl_l_kinds⟩)
    (c_l_kinds : PySem.W.codeIn K cd_l_kinds "_law_kinds" = true)
    (k_l_kinds : PySem.W.keepIn K (.ref f_l_kinds) = true)
    (a_l_made : PySem.W.nsIn K mainGlobals "_law_made" = some (some (.ref f_l_made)))
    (l_l_made : K.lookup f_l_made = some ⟨oc_l_made, od_l_made, .func (PySem.W.fnOf "_law_made" "_law_made" (defArgs s_l_made) (defBody s_l_made) (defScope s_l_made) .none kV_l_made dc_l_made pm_l_made an_l_made cd_l_made ct_l_made), sl_l_made⟩)
    (c_l_made : PySem.W.codeIn K cd_l_made "_law_made" = true)
    (k_l_made : PySem.W.keepIn K (.ref f_l_made) = true)
    (a_l_held : PySem.W.nsIn K mainGlobals "_law_held" = some (some (.ref f_l_held)))
    (l_l_held : K.lookup f_l_held = some ⟨oc_l_held, od_l_held, .func (PySem.W.fnOf "_law_held" "_law_held" (defArgs s_l_held) (defBody s_l_held) (defScope s_l_held) .none kV_l_held dc_l_held pm_l_held an_l_held cd_l_held ct_l_held), sl_l_held⟩)
    (c_l_held : PySem.W.codeIn K cd_l_held "_law_held" = true)
    (k_l_held : PySem.W.keepIn K (.ref f_l_held) = true)
    (a_law : PySem.W.nsIn K mainGlobals "law" = some (some (.ref f_law)))
    (l_law : K.lookup f_law = some ⟨oc_law, od_law, .func (PySem.W.fnOf "law" "law" (defArgs s_law) (defBody s_law) (defScope s_law) .none kV_law dc_law pm_law an_law cd_law ct_law), sl_law⟩)
    (c_law : PySem.W.codeIn K cd_law "law" = true)
    (k_law : PySem.W.keepIn K (.ref f_law) = true)
    : ∃ fd : FuncData, (∀ (s : Shared) (v : Value), BindsTo s fd ⟨[v], []⟩ [("_law_script", v)]) ∧ ∀ base : Heap, K.In base → base.Ns mainGlobals mg → FnOk l.prog w K mg base CX0 4 fa fd ["_law_script"] (spLaw K) := by
  have e := hfa.symm.trans (PySem.W.mg_of X G a_law)
  cases e
  have F_NoSize_init := fun_mk (st := s_NoSize_init) l_NoSize_init c_NoSize_init k_NoSize_init
  have b_NoSize_init := F_NoSize_init.binds (ps := ["self", "size"]) fun _ _ _ _ _ _ us hl => match us, hl with | [_, _], _ => rfl
  have F_NoRing_init := fun_mk (st := s_NoRing_init) l_NoRing_init c_NoRing_init k_NoRing_init
  have b_NoRing_init := F_NoRing_init.binds (ps := ["self", "index"]) fun _ _ _ _ _ _ us hl => match us, hl with | [_, _], _ => rfl
  have F_NoPlace_init := fun_mk (st := s_NoPlace_init) l_NoPlace_init c_NoPlace_init k_NoPlace_init
  have b_NoPlace_init := F_NoPlace_init.binds (ps := ["self", "place"]) fun _ _ _ _ _ _ us hl => match us, hl with | [_, _], _ => rfl
  have F_WrongSize_init := fun_mk (st := s_WrongSize_init) l_WrongSize_init c_WrongSize_init k_WrongSize_init
  have b_WrongSize_init := F_WrongSize_init.binds (ps := ["self", "size"]) fun _ _ _ _ _ _ us hl => match us, hl with | [_, _], _ => rfl
  have F_NoText_init := fun_mk (st := s_NoText_init) l_NoText_init c_NoText_init k_NoText_init
  have b_NoText_init := F_NoText_init.binds (ps := ["self", "text"]) fun _ _ _ _ _ _ us hl => match us, hl with | [_, _], _ => rfl
  have F_NoName_init := fun_mk (st := s_NoName_init) l_NoName_init c_NoName_init k_NoName_init
  have b_NoName_init := F_NoName_init.binds (ps := ["self", "name"]) fun _ _ _ _ _ _ us hl => match us, hl with | [_, _], _ => rfl
  have F_NoKind_init := fun_mk (st := s_NoKind_init) l_NoKind_init c_NoKind_init k_NoKind_init
  have b_NoKind_init := F_NoKind_init.binds (ps := ["self", "kind"]) fun _ _ _ _ _ _ us hl => match us, hl with | [_, _], _ => rfl
  have F_NoMost_init := fun_mk (st := s_NoMost_init) l_NoMost_init c_NoMost_init k_NoMost_init
  have b_NoMost_init := F_NoMost_init.binds (ps := ["self", "most"]) fun _ _ _ _ _ _ us hl => match us, hl with | [_, _], _ => rfl
  have F_TwoKinds_init := fun_mk (st := s_TwoKinds_init) l_TwoKinds_init c_TwoKinds_init k_TwoKinds_init
  have b_TwoKinds_init := F_TwoKinds_init.binds (ps := ["self", "name"]) fun _ _ _ _ _ _ us hl => match us, hl with | [_, _], _ => rfl
  have F_NoPart_init := fun_mk (st := s_NoPart_init) l_NoPart_init c_NoPart_init k_NoPart_init
  have b_NoPart_init := F_NoPart_init.binds (ps := ["self", "part"]) fun _ _ _ _ _ _ us hl => match us, hl with | [_, _], _ => rfl
  have F_Unfilled_init := fun_mk (st := s_Unfilled_init) l_Unfilled_init c_Unfilled_init k_Unfilled_init
  have b_Unfilled_init := F_Unfilled_init.binds (ps := ["self", "name"]) fun _ _ _ _ _ _ us hl => match us, hl with | [_, _], _ => rfl
  have F_WrongKind_init := fun_mk (st := s_WrongKind_init) l_WrongKind_init c_WrongKind_init k_WrongKind_init
  have b_WrongKind_init := F_WrongKind_init.binds (ps := ["self", "name"]) fun _ _ _ _ _ _ us hl => match us, hl with | [_, _], _ => rfl
  have F_NoValue_init := fun_mk (st := s_NoValue_init) l_NoValue_init c_NoValue_init k_NoValue_init
  have b_NoValue_init := F_NoValue_init.binds (ps := ["self", "n"]) fun _ _ _ _ _ _ us hl => match us, hl with | [_, _], _ => rfl
  have F_NoShare_init := fun_mk (st := s_NoShare_init) l_NoShare_init c_NoShare_init k_NoShare_init
  have b_NoShare_init := F_NoShare_init.binds (ps := ["self", "name"]) fun _ _ _ _ _ _ us hl => match us, hl with | [_, _], _ => rfl
  have F_NoSighting_init := fun_mk (st := s_NoSighting_init) l_NoSighting_init c_NoSighting_init k_NoSighting_init
  have b_NoSighting_init := F_NoSighting_init.binds (ps := ["self", "k"]) fun _ _ _ _ _ _ us hl => match us, hl with | [_, _], _ => rfl
  have F_NoHalves_init := fun_mk (st := s_NoHalves_init) l_NoHalves_init c_NoHalves_init k_NoHalves_init
  have b_NoHalves_init := F_NoHalves_init.binds (ps := ["self", "length"]) fun _ _ _ _ _ _ us hl => match us, hl with | [_, _], _ => rfl
  have F_l_cell := fun_mk (st := s_l_cell) l_l_cell c_l_cell k_l_cell
  have b_l_cell := F_l_cell.binds (ps := ["_law_script", "_law_k"]) fun _ _ _ _ _ _ us hl => match us, hl with | [_, _], _ => rfl
  have F_l_kinds := fun_mk (st := s_l_kinds) l_l_kinds c_l_kinds k_l_kinds
  have b_l_kinds := F_l_kinds.binds (ps := ["_law_error"]) fun _ _ _ _ _ _ us hl => match us, hl with | [_], _ => rfl
  have F_l_made := fun_mk (st := s_l_made) l_l_made c_l_made k_l_made
  have b_l_made := F_l_made.binds (ps := ["_law_number"]) fun _ _ _ _ _ _ us hl => match us, hl with | [_], _ => rfl
  have F_l_held := fun_mk (st := s_l_held) l_l_held c_l_held k_l_held
  have b_l_held := F_l_held.binds (ps := ["_law_errors"]) fun _ _ _ _ _ _ us hl => match us, hl with | [_], _ => rfl
  have F_law := fun_mk (st := s_law) l_law c_law k_law
  refine ⟨PySem.W.fnOf "law" "law" (defArgs s_law) (defBody s_law) (defScope s_law) .none kV_law dc_law pm_law an_law cd_law ct_law, fun s v => .of_eq rfl, fun base hb1 hb2 => ?_⟩
  have N := fun {x : Str} (z : PySem.W.nsIn K mainGlobals x = some none) => PySem.W.mg_none_of X G z
  have B : Blt mg := ⟨N z_len, N z_range, N z_int, N z_list, N z_enumerate, N z_dict, N z_zip, N z_set, N z_sorted, N z_all, N z_abs, N z_isinstance, N z_bool⟩
  have X_NoSize : ErrAt K C_NoSize C_WireError := ⟨_, _, _, _, _, _, _, _, _, _, _, _, _, _, x_NoSize⟩
  have E_NoSize : ErrC K C_NoSize := X_NoSize.errC sa_NoSize ga_NoSize gg_NoSize cl_NoSize kc_NoSize hget htk
  have X_NoRing : ErrAt K C_NoRing C_WireError := ⟨_, _, _, _, _, _, _, _, _, _, _, _, _, _, x_NoRing⟩
  have E_NoRing : ErrC K C_NoRing := X_NoRing.errC sa_NoRing ga_NoRing gg_NoRing cl_NoRing kc_NoRing hget htk
  have X_NoPlace : ErrAt K C_NoPlace C_WireError := ⟨_, _, _, _, _, _, _, _, _, _, _, _, _, _, x_NoPlace⟩
  have E_NoPlace : ErrC K C_NoPlace := X_NoPlace.errC sa_NoPlace ga_NoPlace gg_NoPlace cl_NoPlace kc_NoPlace hget htk
  have X_WrongSize : ErrAt K C_WrongSize C_WireError := ⟨_, _, _, _, _, _, _, _, _, _, _, _, _, _, x_WrongSize⟩
  have E_WrongSize : ErrC K C_WrongSize := X_WrongSize.errC sa_WrongSize ga_WrongSize gg_WrongSize cl_WrongSize kc_WrongSize hget htk
  have X_NoText : ErrAt K C_NoText C_WireError := ⟨_, _, _, _, _, _, _, _, _, _, _, _, _, _, x_NoText⟩
  have E_NoText : ErrC K C_NoText := X_NoText.errC sa_NoText ga_NoText gg_NoText cl_NoText kc_NoText hget htk
  have X_NoName : ErrAt K C_NoName C_WireError := ⟨_, _, _, _, _, _, _, _, _, _, _, _, _, _, x_NoName⟩
  have E_NoName : ErrC K C_NoName := X_NoName.errC sa_NoName ga_NoName gg_NoName cl_NoName kc_NoName hget htk
  have X_NoKind : ErrAt K C_NoKind C_WireError := ⟨_, _, _, _, _, _, _, _, _, _, _, _, _, _, x_NoKind⟩
  have E_NoKind : ErrC K C_NoKind := X_NoKind.errC sa_NoKind ga_NoKind gg_NoKind cl_NoKind kc_NoKind hget htk
  have X_NoMost : ErrAt K C_NoMost C_WireError := ⟨_, _, _, _, _, _, _, _, _, _, _, _, _, _, x_NoMost⟩
  have E_NoMost : ErrC K C_NoMost := X_NoMost.errC sa_NoMost ga_NoMost gg_NoMost cl_NoMost kc_NoMost hget htk
  have X_TwoKinds : ErrAt K C_TwoKinds C_WireError := ⟨_, _, _, _, _, _, _, _, _, _, _, _, _, _, x_TwoKinds⟩
  have E_TwoKinds : ErrC K C_TwoKinds := X_TwoKinds.errC sa_TwoKinds ga_TwoKinds gg_TwoKinds cl_TwoKinds kc_TwoKinds hget htk
  have X_NoPart : ErrAt K C_NoPart C_WireError := ⟨_, _, _, _, _, _, _, _, _, _, _, _, _, _, x_NoPart⟩
  have E_NoPart : ErrC K C_NoPart := X_NoPart.errC sa_NoPart ga_NoPart gg_NoPart cl_NoPart kc_NoPart hget htk
  have X_Unfilled : ErrAt K C_Unfilled C_WireError := ⟨_, _, _, _, _, _, _, _, _, _, _, _, _, _, x_Unfilled⟩
  have E_Unfilled : ErrC K C_Unfilled := X_Unfilled.errC sa_Unfilled ga_Unfilled gg_Unfilled cl_Unfilled kc_Unfilled hget htk
  have X_WrongKind : ErrAt K C_WrongKind C_WireError := ⟨_, _, _, _, _, _, _, _, _, _, _, _, _, _, x_WrongKind⟩
  have E_WrongKind : ErrC K C_WrongKind := X_WrongKind.errC sa_WrongKind ga_WrongKind gg_WrongKind cl_WrongKind kc_WrongKind hget htk
  have X_NoValue : ErrAt K C_NoValue C_WireError := ⟨_, _, _, _, _, _, _, _, _, _, _, _, _, _, x_NoValue⟩
  have E_NoValue : ErrC K C_NoValue := X_NoValue.errC sa_NoValue ga_NoValue gg_NoValue cl_NoValue kc_NoValue hget htk
  have X_NoShare : ErrAt K C_NoShare C_WireError := ⟨_, _, _, _, _, _, _, _, _, _, _, _, _, _, x_NoShare⟩
  have E_NoShare : ErrC K C_NoShare := X_NoShare.errC sa_NoShare ga_NoShare gg_NoShare cl_NoShare kc_NoShare hget htk
  have X_NoSighting : ErrAt K C_NoSighting C_WireError := ⟨_, _, _, _, _, _, _, _, _, _, _, _, _, _, x_NoSighting⟩
  have E_NoSighting : ErrC K C_NoSighting := X_NoSighting.errC sa_NoSighting ga_NoSighting gg_NoSighting cl_NoSighting kc_NoSighting hget htk
  have X_NoHalves : ErrAt K C_NoHalves C_WireError := ⟨_, _, _, _, _, _, _, _, _, _, _, _, _, _, x_NoHalves⟩
  have E_NoHalves : ErrC K C_NoHalves := X_NoHalves.errC sa_NoHalves ga_NoHalves gg_NoHalves cl_NoHalves kc_NoHalves hget htk
  have X_NoQuot : ErrAt K C_NoQuot C_WireError := ⟨_, _, _, _, _, _, _, _, _, _, _, _, _, _, x_NoQuot⟩
  have E_NoQuot : ErrC K C_NoQuot := X_NoQuot.errC sa_NoQuot ga_NoQuot gg_NoQuot cl_NoQuot kc_NoQuot hget htk
  have X_WireError : ErrAt' K C_WireError := ⟨_, _, _, _, _, _, _, _, _, _, _, _, _, _, _, x_WireError⟩
  have cs : ∀ i, i < 17 → ErrAt K (List.getD [C_NoSize, C_NoRing, C_NoPlace, C_WrongSize, C_NoText, C_NoName, C_NoKind, C_NoMost, C_TwoKinds, C_NoPart, C_Unfilled, C_WrongKind, C_NoValue, C_NoShare, C_NoSighting, C_NoHalves, C_NoQuot] i 0) C_WireError := fun i hi => match i, hi with
    | 0, _ => X_NoSize
    | 1, _ => X_NoRing
    | 2, _ => X_NoPlace
    | 3, _ => X_WrongSize
    | 4, _ => X_NoText
    | 5, _ => X_NoName
    | 6, _ => X_NoKind
    | 7, _ => X_NoMost
    | 8, _ => X_TwoKinds
    | 9, _ => X_NoPart
    | 10, _ => X_Unfilled
    | 11, _ => X_WrongKind
    | 12, _ => X_NoValue
    | 13, _ => X_NoShare
    | 14, _ => X_NoSighting
    | 15, _ => X_NoHalves
    | 16, _ => X_NoQuot
    | n + 17, h => absurd h (by omega)
  have ec : ∀ i, i < 17 → ErrC K (List.getD [C_NoSize, C_NoRing, C_NoPlace, C_WrongSize, C_NoText, C_NoName, C_NoKind, C_NoMost, C_TwoKinds, C_NoPart, C_Unfilled, C_WrongKind, C_NoValue, C_NoShare, C_NoSighting, C_NoHalves, C_NoQuot] i 0) := fun i hi => match i, hi with
    | 0, _ => E_NoSize
    | 1, _ => E_NoRing
    | 2, _ => E_NoPlace
    | 3, _ => E_WrongSize
    | 4, _ => E_NoText
    | 5, _ => E_NoName
    | 6, _ => E_NoKind
    | 7, _ => E_NoMost
    | 8, _ => E_TwoKinds
    | 9, _ => E_NoPart
    | 10, _ => E_Unfilled
    | 11, _ => E_WrongKind
    | 12, _ => E_NoValue
    | 13, _ => E_NoShare
    | 14, _ => E_NoSighting
    | 15, _ => E_NoHalves
    | 16, _ => E_NoQuot
    | n + 17, h => absurd h (by omega)
  have fc : ∀ i, i < 16 → PySem.W.findIn K (.ref (List.getD [C_NoSize, C_NoRing, C_NoPlace, C_WrongSize, C_NoText, C_NoName, C_NoKind, C_NoMost, C_TwoKinds, C_NoPart, C_Unfilled, C_WrongKind, C_NoValue, C_NoShare, C_NoSighting, C_NoHalves, C_NoQuot] i 0)) (fs i) = some none := fun i hi => match i, hi with
    | 0, _ => no_NoSize
    | 1, _ => no_NoRing
    | 2, _ => no_NoPlace
    | 3, _ => no_WrongSize
    | 4, _ => no_NoText
    | 5, _ => no_NoName
    | 6, _ => no_NoKind
    | 7, _ => no_NoMost
    | 8, _ => no_TwoKinds
    | 9, _ => no_NoPart
    | 10, _ => no_Unfilled
    | 11, _ => no_WrongKind
    | 12, _ => no_NoValue
    | 13, _ => no_NoShare
    | 14, _ => no_NoSighting
    | 15, _ => no_NoHalves
    | n + 16, h => absurd h (by omega)
  have T : ErrT K mg (fun i => List.getD [C_NoSize, C_NoRing, C_NoPlace, C_WrongSize, C_NoText, C_NoName, C_NoKind, C_NoMost, C_TwoKinds, C_NoPart, C_Unfilled, C_WrongKind, C_NoValue, C_NoShare, C_NoSighting, C_NoHalves, C_NoQuot] i 0) C_WireError := { toBlt := B, str := N z_str, ValueError := N z_ValueError, er := ec, hno := fc,     kk := fun i hi j hj => (cs i hi).kit (cs j hj) hi hj nod, kW := fun i hi => (cs i hi).kitW X_WireError, kV := fun i hi => (cs i hi).kitV,     g_NoSize := PySem.W.mg_of X G g_NoSize,     g_NoRing := PySem.W.mg_of X G g_NoRing,     g_NoPlace := PySem.W.mg_of X G g_NoPlace,     g_WrongSize := PySem.W.mg_of X G g_WrongSize,     g_NoText := PySem.W.mg_of X G g_NoText,     g_NoName := PySem.W.mg_of X G g_NoName,     g_NoKind := PySem.W.mg_of X G g_NoKind,     g_NoMost := PySem.W.mg_of X G g_NoMost,     g_TwoKinds := PySem.W.mg_of X G g_TwoKinds,     g_NoPart := PySem.W.mg_of X G g_NoPart,     g_Unfilled := PySem.W.mg_of X G g_Unfilled,     g_WrongKind := PySem.W.mg_of X G g_WrongKind,     g_NoValue := PySem.W.mg_of X G g_NoValue,     g_NoShare := PySem.W.mg_of X G g_NoShare,     g_NoSighting := PySem.W.mg_of X G g_NoSighting,     g_NoHalves := PySem.W.mg_of X G g_NoHalves,     g_NoQuot := PySem.W.mg_of X G g_NoQuot,     g_WireError := PySem.W.mg_of X G g_WireError,     q_NoQuot := q_NoQuot, k_NoQuot := kc_NoQuot }
  have D_NoSize : ErrOk l.prog w K mg base CX0 1 C_NoSize "NoSize" "size" "size" := ⟨E_NoSize, PySem.W.mg_of X G g_NoSize, _, _, a_NoSize_init, i_NoSize_init, b_NoSize_init, ok_NoSize_init F_NoSize_init E_NoSize no_NoSize⟩
  have D_NoRing : ErrOk l.prog w K mg base CX0 1 C_NoRing "NoRing" "index" "index" := ⟨E_NoRing, PySem.W.mg_of X G g_NoRing, _, _, a_NoRing_init, i_NoRing_init, b_NoRing_init, ok_NoRing_init F_NoRing_init E_NoRing no_NoRing⟩
  have D_NoPlace : ErrOk l.prog w K mg base CX0 1 C_NoPlace "NoPlace" "place" "place" := ⟨E_NoPlace, PySem.W.mg_of X G g_NoPlace, _, _, a_NoPlace_init, i_NoPlace_init, b_NoPlace_init, ok_NoPlace_init F_NoPlace_init E_NoPlace no_NoPlace⟩
  have D_WrongSize : ErrOk l.prog w K mg base CX0 1 C_WrongSize "WrongSize" "size" "size" := ⟨E_WrongSize, PySem.W.mg_of X G g_WrongSize, _, _, a_WrongSize_init, i_WrongSize_init, b_WrongSize_init, ok_WrongSize_init F_WrongSize_init E_WrongSize no_WrongSize⟩
  have D_NoText : ErrOk l.prog w K mg base CX0 1 C_NoText "NoText" "text" "text" := ⟨E_NoText, PySem.W.mg_of X G g_NoText, _, _, a_NoText_init, i_NoText_init, b_NoText_init, ok_NoText_init F_NoText_init E_NoText no_NoText⟩
  have D_NoName : ErrOk l.prog w K mg base CX0 1 C_NoName "NoName" "name" "name" := ⟨E_NoName, PySem.W.mg_of X G g_NoName, _, _, a_NoName_init, i_NoName_init, b_NoName_init, ok_NoName_init F_NoName_init E_NoName no_NoName⟩
  have D_NoKind : ErrOk l.prog w K mg base CX0 1 C_NoKind "NoKind" "kind" "kind" := ⟨E_NoKind, PySem.W.mg_of X G g_NoKind, _, _, a_NoKind_init, i_NoKind_init, b_NoKind_init, ok_NoKind_init F_NoKind_init E_NoKind no_NoKind⟩
  have D_NoMost : ErrOk l.prog w K mg base CX0 1 C_NoMost "NoMost" "most" "most" := ⟨E_NoMost, PySem.W.mg_of X G g_NoMost, _, _, a_NoMost_init, i_NoMost_init, b_NoMost_init, ok_NoMost_init F_NoMost_init E_NoMost no_NoMost⟩
  have D_TwoKinds : ErrOk l.prog w K mg base CX0 1 C_TwoKinds "TwoKinds" "name" "name" := ⟨E_TwoKinds, PySem.W.mg_of X G g_TwoKinds, _, _, a_TwoKinds_init, i_TwoKinds_init, b_TwoKinds_init, ok_TwoKinds_init F_TwoKinds_init E_TwoKinds no_TwoKinds⟩
  have D_NoPart : ErrOk l.prog w K mg base CX0 1 C_NoPart "NoPart" "part" "part" := ⟨E_NoPart, PySem.W.mg_of X G g_NoPart, _, _, a_NoPart_init, i_NoPart_init, b_NoPart_init, ok_NoPart_init F_NoPart_init E_NoPart no_NoPart⟩
  have D_Unfilled : ErrOk l.prog w K mg base CX0 1 C_Unfilled "Unfilled" "name" "name" := ⟨E_Unfilled, PySem.W.mg_of X G g_Unfilled, _, _, a_Unfilled_init, i_Unfilled_init, b_Unfilled_init, ok_Unfilled_init F_Unfilled_init E_Unfilled no_Unfilled⟩
  have D_WrongKind : ErrOk l.prog w K mg base CX0 1 C_WrongKind "WrongKind" "name" "name" := ⟨E_WrongKind, PySem.W.mg_of X G g_WrongKind, _, _, a_WrongKind_init, i_WrongKind_init, b_WrongKind_init, ok_WrongKind_init F_WrongKind_init E_WrongKind no_WrongKind⟩
  have D_NoValue : ErrOk l.prog w K mg base CX0 1 C_NoValue "NoValue" "n" "n" := ⟨E_NoValue, PySem.W.mg_of X G g_NoValue, _, _, a_NoValue_init, i_NoValue_init, b_NoValue_init, ok_NoValue_init F_NoValue_init E_NoValue no_NoValue⟩
  have D_NoShare : ErrOk l.prog w K mg base CX0 1 C_NoShare "NoShare" "name" "name" := ⟨E_NoShare, PySem.W.mg_of X G g_NoShare, _, _, a_NoShare_init, i_NoShare_init, b_NoShare_init, ok_NoShare_init F_NoShare_init E_NoShare no_NoShare⟩
  have D_NoSighting : ErrOk l.prog w K mg base CX0 1 C_NoSighting "NoSighting" "k" "k" := ⟨E_NoSighting, PySem.W.mg_of X G g_NoSighting, _, _, a_NoSighting_init, i_NoSighting_init, b_NoSighting_init, ok_NoSighting_init F_NoSighting_init E_NoSighting no_NoSighting⟩
  have D_NoHalves : ErrOk l.prog w K mg base CX0 1 C_NoHalves "NoHalves" "length" "length" := ⟨E_NoHalves, PySem.W.mg_of X G g_NoHalves, _, _, a_NoHalves_init, i_NoHalves_init, b_NoHalves_init, ok_NoHalves_init F_NoHalves_init E_NoHalves no_NoHalves⟩
  have D_l_cell : DefOk l.prog w K mg base CX0 1 "_law_cell" ["_law_script", "_law_k"] [] (spCell K) := ⟨_, _, [], PySem.W.mg_of X G a_l_cell, k_l_cell, b_l_cell, .nil, ok_cell F_l_cell B⟩
  have D_l_made : DefOk l.prog w K mg base CX0 3 "_law_made" ["_law_number"] [] (spMade _) := ⟨_, _, [], PySem.W.mg_of X G a_l_made, k_l_made, b_l_made, .nil, ok_made F_l_made T D_NoSize D_NoRing D_NoPlace D_WrongSize D_NoText D_NoName D_NoKind D_NoMost D_TwoKinds D_NoPart D_Unfilled D_WrongKind D_NoValue D_NoShare D_NoSighting D_NoHalves⟩
  have D_l_held : DefOk l.prog w K mg base CX0 1 "_law_held" ["_law_errors"] [] (spHeld _) := ⟨_, _, [], PySem.W.mg_of X G a_l_held, k_l_held, b_l_held, .nil, ok_held F_l_held T⟩
  have D_l_kinds : DefOk l.prog w K mg base CX0 1 "_law_kinds" ["_law_error"] [] (spKinds K _) := ⟨_, _, [], PySem.W.mg_of X G a_l_kinds, k_l_kinds, b_l_kinds, .nil, ok_kinds F_l_kinds T⟩
  exact ok_law F_law T D_l_cell D_l_made D_l_held D_l_kinds

end TW
open PySem PySem.W PyProof.Rows
set_option maxRecDepth 100000 in
set_option maxHeartbeats 0 in
theorem PySem.Challenge.cw_turnwires_k01_errors_holds : PySem.Challenge.rw_turnwires_k01_errors.Holds := by
  w_on; o_law; k_head; (case hw => w_witness2)
  k_fill
  refine L2.walk_of (l := PySem.Challenge.rw_turnwires_k01_errors) (n := 63) (k := 4) (x := "_law_script") (CX := fun w => L2.CX0) (sp := fun w => TW.spLaw _) rfl (by decide) rfl ⟨rfl, by decide, by decide⟩ (fun w h Y => PySem.W.kIn_of Y) ?F (fun _ _ a ns hl _ hS => ⟨a, ns, rfl, hS, hl, fun _ => rfl⟩) (fun _ _ _ _ _ h => h)
  case F =>
    intro w mg fa h KX G hmg
    refine' TW.all_mk KX G hmg ?g_NoHalves ?g_NoKind ?g_NoMost ?g_NoName ?g_NoPart ?g_NoPlace ?g_NoQuot ?g_NoRing ?g_NoShare ?g_NoSighting ?g_NoSize ?g_NoText ?g_NoValue ?g_TwoKinds ?g_Unfilled ?g_WireError ?g_WrongKind ?g_WrongSize ?x_NoHalves ?kc_NoHalves ?sa_NoHalves ?ga_NoHalves ?gg_NoHalves ?cl_NoHalves ?no_NoHalves ?x_NoKind ?kc_NoKind ?sa_NoKind ?ga_NoKind ?gg_NoKind ?cl_NoKind ?no_NoKind ?x_NoMost ?kc_NoMost ?sa_NoMost ?ga_NoMost ?gg_NoMost ?cl_NoMost ?no_NoMost ?x_NoName ?kc_NoName ?sa_NoName ?ga_NoName ?gg_NoName ?cl_NoName ?no_NoName ?x_NoPart ?kc_NoPart ?sa_NoPart ?ga_NoPart ?gg_NoPart ?cl_NoPart ?no_NoPart ?x_NoPlace ?kc_NoPlace ?sa_NoPlace ?ga_NoPlace ?gg_NoPlace ?cl_NoPlace ?no_NoPlace ?x_NoQuot ?kc_NoQuot ?sa_NoQuot ?ga_NoQuot ?gg_NoQuot ?cl_NoQuot ?x_NoRing ?kc_NoRing ?sa_NoRing ?ga_NoRing ?gg_NoRing ?cl_NoRing ?no_NoRing ?x_NoShare ?kc_NoShare ?sa_NoShare ?ga_NoShare ?gg_NoShare ?cl_NoShare ?no_NoShare ?x_NoSighting ?kc_NoSighting ?sa_NoSighting ?ga_NoSighting ?gg_NoSighting ?cl_NoSighting ?no_NoSighting ?x_NoSize ?kc_NoSize ?sa_NoSize ?ga_NoSize ?gg_NoSize ?cl_NoSize ?no_NoSize ?x_NoText ?kc_NoText ?sa_NoText ?ga_NoText ?gg_NoText ?cl_NoText ?no_NoText ?x_NoValue ?kc_NoValue ?sa_NoValue ?ga_NoValue ?gg_NoValue ?cl_NoValue ?no_NoValue ?x_TwoKinds ?kc_TwoKinds ?sa_TwoKinds ?ga_TwoKinds ?gg_TwoKinds ?cl_TwoKinds ?no_TwoKinds ?x_Unfilled ?kc_Unfilled ?sa_Unfilled ?ga_Unfilled ?gg_Unfilled ?cl_Unfilled ?no_Unfilled ?x_WireError ?x_WrongKind ?kc_WrongKind ?sa_WrongKind ?ga_WrongKind ?gg_WrongKind ?cl_WrongKind ?no_WrongKind ?x_WrongSize ?kc_WrongSize ?sa_WrongSize ?ga_WrongSize ?gg_WrongSize ?cl_WrongSize ?no_WrongSize ?hget ?htk ?nod ?q_NoQuot ?z_len ?z_range ?z_int ?z_list ?z_enumerate ?z_dict ?z_zip ?z_set ?z_sorted ?z_all ?z_abs ?z_isinstance ?z_bool ?z_str ?z_ValueError ?a_NoSize_init ?i_NoSize_init ?l_NoSize_init ?c_NoSize_init ?k_NoSize_init ?a_NoRing_init ?i_NoRing_init ?l_NoRing_init ?c_NoRing_init ?k_NoRing_init ?a_NoPlace_init ?i_NoPlace_init ?l_NoPlace_init ?c_NoPlace_init ?k_NoPlace_init ?a_WrongSize_init ?i_WrongSize_init ?l_WrongSize_init ?c_WrongSize_init ?k_WrongSize_init ?a_NoText_init ?i_NoText_init ?l_NoText_init ?c_NoText_init ?k_NoText_init ?a_NoName_init ?i_NoName_init ?l_NoName_init ?c_NoName_init ?k_NoName_init ?a_NoKind_init ?i_NoKind_init ?l_NoKind_init ?c_NoKind_init ?k_NoKind_init ?a_NoMost_init ?i_NoMost_init ?l_NoMost_init ?c_NoMost_init ?k_NoMost_init ?a_TwoKinds_init ?i_TwoKinds_init ?l_TwoKinds_init ?c_TwoKinds_init ?k_TwoKinds_init ?a_NoPart_init ?i_NoPart_init ?l_NoPart_init ?c_NoPart_init ?k_NoPart_init ?a_Unfilled_init ?i_Unfilled_init ?l_Unfilled_init ?c_Unfilled_init ?k_Unfilled_init ?a_WrongKind_init ?i_WrongKind_init ?l_WrongKind_init ?c_WrongKind_init ?k_WrongKind_init ?a_NoValue_init ?i_NoValue_init ?l_NoValue_init ?c_NoValue_init ?k_NoValue_init ?a_NoShare_init ?i_NoShare_init ?l_NoShare_init ?c_NoShare_init ?k_NoShare_init ?a_NoSighting_init ?i_NoSighting_init ?l_NoSighting_init ?c_NoSighting_init ?k_NoSighting_init ?a_NoHalves_init ?i_NoHalves_init ?l_NoHalves_init ?c_NoHalves_init ?k_NoHalves_init ?a_l_cell ?l_l_cell ?c_l_cell ?k_l_cell ?a_l_kinds ?l_l_kinds ?c_l_kinds ?k_l_kinds ?a_l_made ?l_l_made ?c_l_made ?k_l_made ?a_l_held ?l_l_held ?c_l_held ?k_l_held ?a_law ?l_law ?c_law ?k_law
    (case g_NoHalves => k_is)
    (case g_NoKind => k_is)
    (case g_NoMost => k_is)
    (case g_NoName => k_is)
    (case g_NoPart => k_is)
    (case g_NoPlace => k_is)
    (case g_NoQuot => k_is)
    (case g_NoRing => k_is)
    (case g_NoShare => k_is)
    (case g_NoSighting => k_is)
    (case g_NoSize => k_is)
    (case g_NoText => k_is)
    (case g_NoValue => k_is)
    (case g_TwoKinds => k_is)
    (case g_Unfilled => k_is)
    (case g_WireError => k_is)
    (case g_WrongKind => k_is)
    (case g_WrongSize => k_is)
    (case x_NoHalves => k_is)
    (case kc_NoHalves => k_is)
    (case sa_NoHalves => k_is)
    (case ga_NoHalves => k_is)
    (case gg_NoHalves => k_is)
    (case cl_NoHalves => k_is)
    (case no_NoHalves => k_is)
    (case x_NoKind => k_is)
    (case kc_NoKind => k_is)
    (case sa_NoKind => k_is)
    (case ga_NoKind => k_is)
    (case gg_NoKind => k_is)
    (case cl_NoKind => k_is)
    (case no_NoKind => k_is)
    (case x_NoMost => k_is)
    (case kc_NoMost => k_is)
    (case sa_NoMost => k_is)
    (case ga_NoMost => k_is)
    (case gg_NoMost => k_is)
    (case cl_NoMost => k_is)
    (case no_NoMost => k_is)
    (case x_NoName => k_is)
    (case kc_NoName => k_is)
    (case sa_NoName => k_is)
    (case ga_NoName => k_is)
    (case gg_NoName => k_is)
    (case cl_NoName => k_is)
    (case no_NoName => k_is)
    (case x_NoPart => k_is)
    (case kc_NoPart => k_is)
    (case sa_NoPart => k_is)
    (case ga_NoPart => k_is)
    (case gg_NoPart => k_is)
    (case cl_NoPart => k_is)
    (case no_NoPart => k_is)
    (case x_NoPlace => k_is)
    (case kc_NoPlace => k_is)
    (case sa_NoPlace => k_is)
    (case ga_NoPlace => k_is)
    (case gg_NoPlace => k_is)
    (case cl_NoPlace => k_is)
    (case no_NoPlace => k_is)
    (case x_NoQuot => k_is)
    (case kc_NoQuot => k_is)
    (case sa_NoQuot => k_is)
    (case ga_NoQuot => k_is)
    (case gg_NoQuot => k_is)
    (case cl_NoQuot => k_is)
    (case x_NoRing => k_is)
    (case kc_NoRing => k_is)
    (case sa_NoRing => k_is)
    (case ga_NoRing => k_is)
    (case gg_NoRing => k_is)
    (case cl_NoRing => k_is)
    (case no_NoRing => k_is)
    (case x_NoShare => k_is)
    (case kc_NoShare => k_is)
    (case sa_NoShare => k_is)
    (case ga_NoShare => k_is)
    (case gg_NoShare => k_is)
    (case cl_NoShare => k_is)
    (case no_NoShare => k_is)
    (case x_NoSighting => k_is)
    (case kc_NoSighting => k_is)
    (case sa_NoSighting => k_is)
    (case ga_NoSighting => k_is)
    (case gg_NoSighting => k_is)
    (case cl_NoSighting => k_is)
    (case no_NoSighting => k_is)
    (case x_NoSize => k_is)
    (case kc_NoSize => k_is)
    (case sa_NoSize => k_is)
    (case ga_NoSize => k_is)
    (case gg_NoSize => k_is)
    (case cl_NoSize => k_is)
    (case no_NoSize => k_is)
    (case x_NoText => k_is)
    (case kc_NoText => k_is)
    (case sa_NoText => k_is)
    (case ga_NoText => k_is)
    (case gg_NoText => k_is)
    (case cl_NoText => k_is)
    (case no_NoText => k_is)
    (case x_NoValue => k_is)
    (case kc_NoValue => k_is)
    (case sa_NoValue => k_is)
    (case ga_NoValue => k_is)
    (case gg_NoValue => k_is)
    (case cl_NoValue => k_is)
    (case no_NoValue => k_is)
    (case x_TwoKinds => k_is)
    (case kc_TwoKinds => k_is)
    (case sa_TwoKinds => k_is)
    (case ga_TwoKinds => k_is)
    (case gg_TwoKinds => k_is)
    (case cl_TwoKinds => k_is)
    (case no_TwoKinds => k_is)
    (case x_Unfilled => k_is)
    (case kc_Unfilled => k_is)
    (case sa_Unfilled => k_is)
    (case ga_Unfilled => k_is)
    (case gg_Unfilled => k_is)
    (case cl_Unfilled => k_is)
    (case no_Unfilled => k_is)
    (case x_WireError => k_is)
    (case x_WrongKind => k_is)
    (case kc_WrongKind => k_is)
    (case sa_WrongKind => k_is)
    (case ga_WrongKind => k_is)
    (case gg_WrongKind => k_is)
    (case cl_WrongKind => k_is)
    (case no_WrongKind => k_is)
    (case x_WrongSize => k_is)
    (case kc_WrongSize => k_is)
    (case sa_WrongSize => k_is)
    (case ga_WrongSize => k_is)
    (case gg_WrongSize => k_is)
    (case cl_WrongSize => k_is)
    (case no_WrongSize => k_is)
    (case hget => k_is)
    (case htk => k_is)
    (case nod => decide)
    (case q_NoQuot => first | kernel_rfl | kts_isx)
    (case z_len => k_is)
    (case z_range => k_is)
    (case z_int => k_is)
    (case z_list => k_is)
    (case z_enumerate => k_is)
    (case z_dict => k_is)
    (case z_zip => k_is)
    (case z_set => k_is)
    (case z_sorted => k_is)
    (case z_all => k_is)
    (case z_abs => k_is)
    (case z_isinstance => k_is)
    (case z_bool => k_is)
    (case z_str => k_is)
    (case z_ValueError => k_is)
    (case a_NoSize_init => k_is)
    (case i_NoSize_init => k_is)
    (case l_NoSize_init => k_is)
    (case c_NoSize_init => k_is)
    (case k_NoSize_init => k_is)
    (case a_NoRing_init => k_is)
    (case i_NoRing_init => k_is)
    (case l_NoRing_init => k_is)
    (case c_NoRing_init => k_is)
    (case k_NoRing_init => k_is)
    (case a_NoPlace_init => k_is)
    (case i_NoPlace_init => k_is)
    (case l_NoPlace_init => k_is)
    (case c_NoPlace_init => k_is)
    (case k_NoPlace_init => k_is)
    (case a_WrongSize_init => k_is)
    (case i_WrongSize_init => k_is)
    (case l_WrongSize_init => k_is)
    (case c_WrongSize_init => k_is)
    (case k_WrongSize_init => k_is)
    (case a_NoText_init => k_is)
    (case i_NoText_init => k_is)
    (case l_NoText_init => k_is)
    (case c_NoText_init => k_is)
    (case k_NoText_init => k_is)
    (case a_NoName_init => k_is)
    (case i_NoName_init => k_is)
    (case l_NoName_init => k_is)
    (case c_NoName_init => k_is)
    (case k_NoName_init => k_is)
    (case a_NoKind_init => k_is)
    (case i_NoKind_init => k_is)
    (case l_NoKind_init => k_is)
    (case c_NoKind_init => k_is)
    (case k_NoKind_init => k_is)
    (case a_NoMost_init => k_is)
    (case i_NoMost_init => k_is)
    (case l_NoMost_init => k_is)
    (case c_NoMost_init => k_is)
    (case k_NoMost_init => k_is)
    (case a_TwoKinds_init => k_is)
    (case i_TwoKinds_init => k_is)
    (case l_TwoKinds_init => k_is)
    (case c_TwoKinds_init => k_is)
    (case k_TwoKinds_init => k_is)
    (case a_NoPart_init => k_is)
    (case i_NoPart_init => k_is)
    (case l_NoPart_init => k_is)
    (case c_NoPart_init => k_is)
    (case k_NoPart_init => k_is)
    (case a_Unfilled_init => k_is)
    (case i_Unfilled_init => k_is)
    (case l_Unfilled_init => k_is)
    (case c_Unfilled_init => k_is)
    (case k_Unfilled_init => k_is)
    (case a_WrongKind_init => k_is)
    (case i_WrongKind_init => k_is)
    (case l_WrongKind_init => k_is)
    (case c_WrongKind_init => k_is)
    (case k_WrongKind_init => k_is)
    (case a_NoValue_init => k_is)
    (case i_NoValue_init => k_is)
    (case l_NoValue_init => k_is)
    (case c_NoValue_init => k_is)
    (case k_NoValue_init => k_is)
    (case a_NoShare_init => k_is)
    (case i_NoShare_init => k_is)
    (case l_NoShare_init => k_is)
    (case c_NoShare_init => k_is)
    (case k_NoShare_init => k_is)
    (case a_NoSighting_init => k_is)
    (case i_NoSighting_init => k_is)
    (case l_NoSighting_init => k_is)
    (case c_NoSighting_init => k_is)
    (case k_NoSighting_init => k_is)
    (case a_NoHalves_init => k_is)
    (case i_NoHalves_init => k_is)
    (case l_NoHalves_init => k_is)
    (case c_NoHalves_init => k_is)
    (case k_NoHalves_init => k_is)
    (case a_l_cell => k_is)
    (case l_l_cell => k_is)
    (case c_l_cell => k_is)
    (case k_l_cell => k_is)
    (case a_l_kinds => k_is)
    (case l_l_kinds => k_is)
    (case c_l_kinds => k_is)
    (case k_l_kinds => k_is)
    (case a_l_made => k_is)
    (case l_l_made => k_is)
    (case c_l_made => k_is)
    (case k_l_made => k_is)
    (case a_l_held => k_is)
    (case l_l_held => k_is)
    (case c_l_held => k_is)
    (case k_l_held => k_is)
    (case a_law => k_is)
    (case l_law => k_is)
    (case c_law => k_is)
    (case k_law => k_is)
#print axioms PySem.Challenge.cw_turnwires_k01_errors_holds
