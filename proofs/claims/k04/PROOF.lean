import PyProof.Rows.All
import Wide.All
import OpenK.AllK
import Wide.FinOn
import HandS.ForMost
import HandS.ForExc
import HandS.ExcInit
import HandS.ExcIs
import HandS.IsInst
import HandS.Steps
import HandS.TupMul
import HandS.TupAny
import HandS.SortInts
import HandS.Defaults
import HandS.HeadHook3
import HandS.HeadHook4
import HandS.HeadEnd
import HandS.Head2
import PySem.Challenge.RW_ringbound_k04_rings
set_option Elab.async false
set_option linter.all false
set_option maxRecDepth 100000
set_option maxHeartbeats 0
/-! The layer of this program: rules that the hand layer lacks. -/
namespace Rb
open PySem PySem.Spec PyProof.Rows L2

section
variable {X : Cx} {x m : Str} {C f : Addr} {CX : CXT} {k : Nat} {fd : FuncData} {ps : List Str} {sp : Sp} {ds : List Value} {dvs : List V} {E : XK}
  {e : Expr} {es : List Expr} {t : TA} {p1 p2 pos : Pos} {mc : Value}

/-- what is read of a class: the function that stands under a name -/
structure ClsFn (K : PySem.W.Frag) (C : Addr) (mc : Value) (m : Str) (f : Addr) : Prop where
  rd : PySem.W.readsIn K C mc = true
  ga : PySem.W.specialIn K (.ref C) "__getattribute__" = some (some (.builtin "type.__getattribute__"))
  fn : PySem.W.findCls K (.ref C) mc m = some (.val (.ref f))
  kp : PySem.W.keepIn K (.ref f) = true

/-- Base.m(e, ..): a def called off its class -/
theorem pe_clsfn {pl : Sem Bool} (c : ClsFn X.K C mc m f) (F : FnOk X.prog X.w X.K X.mg X.base CX k f fd ps sp) (hr : Room k X.A)
    (hg : Gl X x) (hm : X.mg x = some (.ref C)) (hb : Binds X.K fd ps ds) (hd : Vals dvs ds) (hx : Passes CX X E) (hP : PA X (e :: es) t)
    (hc : eval (.Call (.Attribute (.Name x p1) m p2) (e :: es) [] pos) X.env = (do
      let ov ← eval (.Name x p1) X.env
      standAt p2.atName
      let (g, first) ← holding [ov] (getMethod ov m pl)
      callWith pos g first (backTo pos (starEach (e :: es) X.env)) (backToKw pos (keywordEach [] X.env))) := by rfl)
    (hs1 : starEach (e :: es) X.env = (false, eval e X.env) :: starEach es X.env := by rfl)
    (hs2 : (backTo pos (starEach es X.env)).any (·.1) = false := by rfl) (hdb : (x == ("__debug__" : Str)) = false := by decide) :
    PE X (.Call (.Attribute (.Name x p1) m p2) (e :: es) [] pos) (tCall sp dvs E t) := by
  refine ⟨fun pins s σ H Q I hw => ?_⟩
  refine PySem.W.methodCall_KW (ld_glob I hg hm ?_ hdb) hc
  refine PySem.W.method_cls I.kIn c.ga ?_
  refine PySem.W.cls_value I.kIn c.rd c.fn rfl ?_
  refine PySem.W.callWith_K (h₀ := X.base) I.ok.mod.kin c.kp ?_ hs1 hs2
  refine thn (hP.run pos pins _ σ H _ (I.tok _) hw) fun us s1 hh => ?_
  obtain ⟨vs, H1, I1, r, q⟩ := hh
  exact ⟨I1.kIn, run_fn F hr hb hd hx I1 r q⟩
end

/-! ### an exception whose __init__ leaves nothing -/
section
variable {X : Cx} {pins : List (Addr × Obj)} {σ : L2.St}
theorem bare_end {H1 : Hp} {hp hp2 h2 : Heap} {g1 g2 : Array GenState} {d1 d2 : Drawn} {t1 t2 : Nat} {os1 os2 : OsState} {a C : Addr}
    (I1 : Inv X pins σ H1 ⟨hp, g1, d1, t1, os1⟩) (ha : hp.objs.size ≤ a) (kk : ∀ b o, hp.get? b = some o → hp2.get? b = some o)
    (un : Un (frs X.stack) [] (upd H1 a (exo a C none)) (upd H1 a (exo a C none)) hp2 h2)
    (hok : HOk X.prog X.w (upd H1 a (exo a C none)) h2) (ho : os2 = os1) (hb : AllBare g2) :
    ∃ (t0 : Addr) (G : Heap), Inv X pins σ H1 ⟨G, g2, d2, t2, os2⟩ ∧ (∀ b o, G.get? b = some o → h2.get? b = some o) ∧
      G.get? a = none ∧ H1 a = none ∧
      h2.get? a = some ({ cls := .ref C, dict := none, data := .fields #[.ref t0, .none, .none, .none, .bool false, .none] } : Obj) := by
  have na : H1 a = none := I1.hok.fresh ha
  have ea : upd H1 a (exo a C none) a = some (exo a C none) := upd_same
  obtain ⟨t0, hoe⟩ := exo_at hok ea
  obtain ⟨G, gin, gout⟩ := restrict h2 fun b => decide (b ≠ a)
  have gk : ∀ b, b ≠ a → G.get? b = h2.get? b := fun b q => gin b (decide_eq_true q)
  have ge : G.get? a = none := gout a (by simp)
  have old : ∀ {b : Addr} {o : Obj}, hp.get? b = some o → b ≠ a := fun z => Nat.ne_of_lt (Nat.lt_of_lt_of_le (Heap.lt_size z) ha)
  have trk : ∀ {b : Addr} {o : HO}, H1 b = some o → b ≠ a := fun {b o} z q => by
    rw [q, na] at z
    cases z
  have U : Un (frs X.stack) [] H1 H1 hp G := by
    constructor
    · intro b o z n q1 q2
      rw [gk b (old z)]
      exact un.keep b o (kk b o z) (by rw [upd_ne (old z)]; exact n) q1 q2
    · intro b o z n q1 q2
      rw [gk b (old z)]
      exact un.slot b o (kk b o z) (by rw [upd_ne (old z)]; exact n) q1 q2
    · intro b o z n q2
      exact n
    · intro b o z q2
      rw [gk b (old z)]
      exact un.there b o (kk b o z) q2
    · intro b xs z
      exact z
    · intro b o u z
      exact z
    · intro b ps z
      exact ⟨#[], by rw [z]; simp⟩
  have ok3 : HOk X.prog X.w H1 G := by
    intro b o z
    have nb := trk z
    have y := hok b o (by rw [upd_ne nb]; exact z)
    refine y.stay (fun c v hc r => ?_) (fun c r => ?_) (fun c xs r => ?_)
    · have nc : c ≠ a := by
        rcases hc with q | q
        · rw [q]
          exact nb
        · exact at_ne ea q exo_own
      rw [gk c nc]
      exact r
    · rw [upd_ne (at_ne ea r exo_own)] at r
      exact r
    · rw [upd_ne (at_ne ea r exo_tup)] at r
      exact r
  have J : Inv X pins σ H1 ⟨G, g2, d2, t2, os2⟩ := I1.call' (ch := []) ho U ok3 hb (fun b z => absurd z (by simp))
  refine ⟨t0, G, J, fun b o z => ?_, ge, na, hoe⟩
  by_cases q : b = a
  · rw [q, ge] at z
    cases z
  · rw [← gk b q]
    exact z

/-- C() where C's __init__ does no more than its base's -/
theorem pmk_bare0 {CX : CXT} {x : Str} {C fI : Addr} {k : Nat} {fd : FuncData} {ps : List Str} {sp : Sp} {pos p : Pos} (T : OexC X.K C)
    (iC : PySem.W.findIn X.K (.ref C) "__init__" = some (some (.ref fI))) (tI : PySem.W.typeIn X.K (.ref fI) = some (.type "function"))
    (F1 : FnOk X.prog X.w X.K X.mg X.base CX k fI fd ps sp) (hr : Room (k + 1) X.A) (hb : L2.Binds X.K fd ps [])
    (hx : Passes CX X (fun _ _ _ => False)) (hg : Gl X x) (hm : X.mg x = some (.ref C)) (hdb : (x == ("__debug__" : Str)) = false := by decide) :
    PMk X (.Call (.Name x p) [] [] pos) (fun _ H Q => (∀ a, H a = none → sp [.ref a] (upd H a (exo a C none)) (fun v H2 => v = .non ∧ H2 = upd H a (exo a C none)) (fun _ _ _ => False)) ∧ Q (.ref C) none H) := by
  intro pins s σ H Q I hw
  obtain ⟨nm, q, N, bs, bm, sn, sub, ab, col, dd, k0, k1, k2, k3, k5, hC, hbm⟩ := T.cls
  refine wpAny_Call_Name_kw (ld_glob I hg hm ?_ hdb)
  refine PySem.W.callWith_K0 I.kIn T.kC ?_
  show wpAny _ _ (call (.ref C) []) _ _ _
  obtain ⟨hp, g, dr, tk, os⟩ := s
  have hsz : hp.objs.size ≤ hp.objs.size + 1 := Nat.le_succ _
  have hn : H (hp.objs.size + 1) = none := I.hok.fresh hsz
  obtain ⟨hw1, hw2⟩ := hw
  have hq := hw1 (hp.objs.size + 1) hn
  have kk : ∀ b o, hp.get? b = some o → ((hp.push (PySem.W.kdv_tup [])).push (PySem.HandSPX.excO C hp.objs.size)).get? b = some o := fun b o z =>
    Heap.get?_push_of_some _ (Heap.get?_push_of_some _ z)
  have hget : ((hp.push (PySem.W.kdv_tup [])).push (PySem.HandSPX.excO C hp.objs.size)).get? (hp.objs.size + 1) = some (PySem.HandSPX.excO C hp.objs.size) := by heap_get
  have I2 := I.laid (t' := tk) (a := hp.objs.size + 1) (o := exo (hp.objs.size + 1) C none) kk hsz (exo_ok hget)
  have r2 : Vals [V.ref (hp.objs.size + 1)] [Value.ref (hp.objs.size + 1)] := .cons rfl .nil
  have lb := hb _ [Value.ref (hp.objs.size + 1)] I2.kIn (F1.len _ _ _ _ hq)
  refine wpAny_call (PySem.HandSPX.call_own F.excBase_ValueError (fun Y => PySem.HandSPX.refsVE_contains Y bm hbm) (I.kIn _ _ hC) (PySem.W.looks_findIn I.kIn iC)
    (fun self => PySem.W.bind_fn I.kIn self tI) (Nat.zero_le _)
    (codeAny_mono (F1.run _ X.stack _ _ ⟨[Value.ref (hp.objs.size + 1)], []⟩ [Value.ref (hp.objs.size + 1)] _ _ (fun _ _ _ => False) (hr.make C [] []) (I2.env0.make C [] []) lb r2 hq)
      fun r s' hq' => ?_))
  cases r with
  | error er => exact hx pins σ _ _ er s' I2 hq'
  | ok fl =>
    cases fl with
    | ret u =>
      obtain ⟨v, H2, os2, bare2, un2, hok2, rv, ev, eH⟩ := hq'
      subst ev
      subst eH
      obtain ⟨h2, g2, d2, t2, os'⟩ := s'
      obtain ⟨t0, G, J, kG, ge, na, hoe⟩ := bare_end (d2 := d2) (t2 := t2) I hsz kk un2 hok2 os2 bare2
      exact ⟨rv, ⟨_, _, _, ⟨G, g2, d2, t2, os'⟩, H, .ref C, none, rfl, J, kG, ge, hoe, ⟨rfl, rfl⟩, rfl, rfl, na, rfl, bare2, raises_own T.exC T.tyC, hw2⟩⟩
    | next => exact False.elim hq'
    | brk => exact False.elim hq'
    | cont => exact False.elim hq'
end
/-! ### defs by what they keep -/
/-- the def at f keeps sp; CX: what it may let out -/
structure FnC (P : Program) (w : World) (K : PySem.W.Frag) (mg : Str → Option Value) (base : Heap) (CX : CXT) (k : Nat) (f : Addr) (sp : Sp) : Prop where
  ex : ∃ (fd : FuncData) (ps : List Str), FnOk P w K mg base CX k f fd ps sp ∧ L2.Binds K fd ps [] ∧ PySem.W.keepIn K (.ref f) = true
section
variable {P : Program} {w : World} {K : PySem.W.Frag} {mg : Str → Option Value} {base : Heap}
theorem FnC.imp {CX : CXT} {k : Nat} {f : Addr} {sp sp' : Sp} (c : FnC P w K mg base CX k f sp) (h : ∀ vs H Q E, sp' vs H Q E → sp vs H Q E) : FnC P w K mg base CX k f sp' := by
  obtain ⟨fd, ps, F, b, kp⟩ := c.ex
  exact ⟨fd, ps, F.imp h, b, kp⟩
theorem fnc {CX : CXT} {x qual : Str} {params : Arguments} {body : List Stmt} {scope : Scope} {kws : List (Str × V)} {f : Addr} {N ps : List Str} {k : Nat} {sp : Sp}
    (F : ∃ fd, FunD K x qual params body scope [] kws f fd) (S : FnScope N ps scope)
    (bd : ∀ (kV doc pm : Value) (an : Option Addr) (cdv ct : Value) (us : List Value), us.length = ps.length → bindArgs (PySem.W.fnOf x qual params body scope .none kV doc pm an cdv ct) ⟨us, []⟩ = pure (ps.zip us))
    (len : ∀ vs H Q E, sp vs H Q E → vs.length = ps.length)
    (hb : ∀ (cdv : Value) (A : Around) (outer : List Env) (s : Shared) (H : Hp) (vs : List V) (Q : VK) (E : XK), Room k (A.deeper (envOfC qual scope s.heap.objs.size f cdv)) → sp vs H Q E →
      ∃ t, PSs (cxOf CX P w K mg base N qual scope f cdv A outer s H E) body t ∧ t { nx := fun _ H' => Q .non H', rt := Q } (start N vs) H) : FnC P w K mg base CX (k + 1) f sp := by
  obtain ⟨fd, F⟩ := F
  exact ⟨fd, ps, F.ok S len hb, F.bindsN bd, F.kp⟩
/-- a def that lets nothing out -/
theorem fnc0 {x qual : Str} {params : Arguments} {body : List Stmt} {scope : Scope} {kws : List (Str × V)} {f : Addr} {N ps : List Str} {k : Nat} {sp : Sp}
    (F : ∃ fd, FunD K x qual params body scope [] kws f fd) (S : FnScope N ps scope)
    (bd : ∀ (kV doc pm : Value) (an : Option Addr) (cdv ct : Value) (us : List Value), us.length = ps.length → bindArgs (PySem.W.fnOf x qual params body scope .none kV doc pm an cdv ct) ⟨us, []⟩ = pure (ps.zip us))
    (len : ∀ vs H Q E, sp vs H Q E → vs.length = ps.length)
    (hb : ∀ (cdv : Value) (A : Around) (outer : List Env) (s : Shared) (H : Hp) (vs : List V) (Q : VK) (E : XK), Room k (A.deeper (envOfC qual scope s.heap.objs.size f cdv)) → sp vs H Q E →
      ∃ t, PSs (cxOf CX0 P w K mg base N qual scope f cdv A outer s H E).nox body t ∧ t { nx := fun _ H' => Q .non H', rt := Q } (start N vs) H) : FnC P w K mg base CX0 (k + 1) f sp :=
  fnc F S bd len fun cdv A outer s H vs Q E hr h => by
    obtain ⟨t, h1, h2⟩ := hb cdv A outer s H vs Q E hr h
    exact ⟨t, h1.nox, h2⟩
end
section
variable {X : Cx} {x m : Str} {C f : Addr} {CX : CXT} {k j : Nat} {sp : Sp} {E : XK} {ES : L2.St → XK} {e o : Expr} {es : List Expr} {t : TA} {ta : TE} {p apos pos : Pos}
theorem pe_f (c : FnC X.prog X.w X.K X.mg X.base CX k f sp) (hr : Room j X.A) (hk : k ≤ j) (hg : Gl X x) (hm : X.mg x = some (.ref f)) (hx : Passes CX X E) (ha : PA X (e :: es) t)
    (hdb : (x == ("__debug__" : Str)) = false := by decide) (h1 : starEach (e :: es) X.env = (false, eval e X.env) :: starEach es X.env := by rfl) (h2 : (backTo pos (starEach es X.env)).any (·.1) = false := by rfl) :
    PE X (.Call (.Name x p) (e :: es) [] pos) (tCall sp [] E t) := by
  obtain ⟨fd, ps, F, b, kp⟩ := c.ex
  exact pe_call F (hr.mono hk) hg hm kp b .nil hx ha hdb h1 h2
theorem pe_f0 (c : FnC X.prog X.w X.K X.mg X.base CX k f sp) (hr : Room j X.A) (hk : k ≤ j) (hg : Gl X x) (hm : X.mg x = some (.ref f)) (hx : Passes CX X E)
    (hdb : (x == ("__debug__" : Str)) = false := by decide) : PE X (.Call (.Name x p) [] [] pos) (tCall sp [] E tNil) := by
  obtain ⟨fd, ps, F, b, kp⟩ := c.ex
  exact pe_call0 F (hr.mono hk) hg hm kp b .nil hx hdb
/-- .. where what is raised is wished for at the slots -/
theorem pe_fS (c : FnC X.prog X.w X.K X.mg X.base CX k f sp) (hr : Room j X.A) (hk : k ≤ j) (hg : Gl X x) (hm : X.mg x = some (.ref f)) (hx : ∀ σ, PassesAt CX X σ (ES σ)) (ha : PA X (e :: es) t)
    (hdb : (x == ("__debug__" : Str)) = false := by decide) (h1 : starEach (e :: es) X.env = (false, eval e X.env) :: starEach es X.env := by rfl) (h2 : (backTo pos (starEach es X.env)).any (·.1) = false := by rfl) :
    PE X (.Call (.Name x p) (e :: es) [] pos) (tCallS sp ES t) := by
  obtain ⟨fd, ps, F, b, kp⟩ := c.ex
  exact pe_callS F (hr.mono hk) hg hm kp b hx ha hdb h1 h2
theorem pe_m {pl : Sem Bool} (c : FnC X.prog X.w X.K X.mg X.base CX k f sp) (hr : Room j X.A) (hk : k ≤ j) (hc : Cls X.K C) (hm : Meth X.K C m f) (hx : Passes CX X E) (ho : PE X o ta) (ha : PA X (e :: es) t)
    (h1 : starEach (e :: es) X.env = (false, eval e X.env) :: starEach es X.env := by rfl) (h2 : (backTo pos (starEach es X.env)).any (·.1) = false := by rfl)
    (h3 : eval (.Call (.Attribute o m apos) (e :: es) [] pos) X.env = (do
      let ov ← eval o X.env
      standAt apos.atName
      let (g, first) ← holding [ov] (getMethod ov m pl)
      callWith pos g first (backTo pos (starEach (e :: es) X.env)) (backToKw pos (keywordEach [] X.env))) := by rfl) :
    PE X (.Call (.Attribute o m apos) (e :: es) [] pos) (tMeth C m sp [] E ta t) := by
  obtain ⟨fd, ps, F, b, kp⟩ := c.ex
  exact pe_meth (pl := pl) ho hc hm F (hr.mono hk) b .nil hx ha h1 h2 h3
theorem pe_m0 {pl : Sem Bool} (c : FnC X.prog X.w X.K X.mg X.base CX k f sp) (hr : Room j X.A) (hk : k ≤ j) (hc : Cls X.K C) (hm : Meth X.K C m f) (hx : Passes CX X E) (ho : PE X o ta)
    (h3 : eval (.Call (.Attribute o m apos) [] [] pos) X.env = (do
      let ov ← eval o X.env
      standAt apos.atName
      let (g, first) ← holding [ov] (getMethod ov m pl)
      callWith pos g first (backTo pos (starEach [] X.env)) (backToKw pos (keywordEach [] X.env))) := by rfl) :
    PE X (.Call (.Attribute o m apos) [] [] pos) (tMeth C m sp [] E ta tNil) := by
  obtain ⟨fd, ps, F, b, kp⟩ := c.ex
  exact pe_meth0 (pl := pl) ho hc hm F (hr.mono hk) b .nil hx h3
theorem pe_k0 (c : FnC X.prog X.w X.K X.mg X.base CX k f sp) (hr : Room j X.A) (hk : k + 1 ≤ j) (hg : Gl X x) (hm : X.mg x = some (.ref C)) (M : Mk X.K C f) (hx : Passes CX X E) (hdb : (x == ("__debug__" : Str)) = false := by decide) :
    PE X (.Call (.Name x p) [] [] pos) (tMake C sp [] E tNil) := by
  obtain ⟨fd, ps, F, b, kp⟩ := c.ex
  exact pe_make0 M F (hr.mono hk) hg hm b .nil hx hdb
theorem pe_k (c : FnC X.prog X.w X.K X.mg X.base CX k f sp) (hr : Room j X.A) (hk : k + 1 ≤ j) (hg : Gl X x) (hm : X.mg x = some (.ref C)) (M : Mk X.K C f) (hx : Passes CX X E) (ha : PA X (e :: es) t)
    (hdb : (x == ("__debug__" : Str)) = false := by decide) (h1 : starEach (e :: es) X.env = (false, eval e X.env) :: starEach es X.env := by rfl) (h2 : (backTo pos (starEach es X.env)).any (·.1) = false := by rfl) :
    PE X (.Call (.Name x p) (e :: es) [] pos) (tMake C sp [] E t) := by
  obtain ⟨fd, ps, F, b, kp⟩ := c.ex
  exact pe_make M F (hr.mono hk) hg hm b .nil hx ha hdb h1 h2
/-- o.m(e, ..) where what is raised is wished for at the slots -/
def tMethAt (C : Addr) (m : Str) (sp : Sp) (ES : L2.St → XK) (ta : TE) (t : TA) : TE := fun σ H Q => ta σ H fun x H1 => ∃ a dx fs, x = .ref a ∧ H1 a = some (.ins C dx fs) ∧ fs.lookup m = none ∧ t σ H1 fun vs H2 => sp (x :: vs) H2 Q (ES σ)
theorem pe_mS {pl : Sem Bool} (c : FnC X.prog X.w X.K X.mg X.base CX k f sp) (hr : Room j X.A) (hk : k ≤ j) (hc : Cls X.K C) (hm : Meth X.K C m f) (hx : ∀ σ, PassesAt CX X σ (ES σ)) (ho : PE X o ta) (hA : PA X (e :: es) t)
    (h1 : starEach (e :: es) X.env = (false, eval e X.env) :: starEach es X.env := by rfl) (h2 : (backTo pos (starEach es X.env)).any (·.1) = false := by rfl)
    (h3 : eval (.Call (.Attribute o m apos) (e :: es) [] pos) X.env = (do
      let ov ← eval o X.env
      standAt apos.atName
      let (g, first) ← holding [ov] (getMethod ov m pl)
      callWith pos g first (backTo pos (starEach (e :: es) X.env)) (backToKw pos (keywordEach [] X.env))) := by rfl) :
    PE X (.Call (.Attribute o m apos) (e :: es) [] pos) (tMethAt C m sp ES ta t) := by
  obtain ⟨fd, ps, F, b, kp⟩ := c.ex
  refine ⟨fun pins s σ H Q I hw => ?_⟩
  refine PySem.W.methodCall_KW (pl := pl) (thn (ho.run pins s σ H _ I hw) fun u s1 hh => ?_) h3
  obtain ⟨y, H1, I1, ry, a, dx, fs, ey, ea, l, q⟩ := hh
  subst ey
  obtain rfl : u = Value.ref a := ry
  refine getmeth_ok I1 ea hc hm l ?_
  refine PySem.W.callWith_K (first := [.ref a]) (h₀ := X.base) I.ok.mod.kin hm.kp (thn (hA.run pos pins s1 σ H1 _ I1 q) fun us s2 hh => ?_) h1 h2
  obtain ⟨vs, H2, I2, r, q2⟩ := hh
  exact ⟨I2.kIn, run_fnS (us := .ref a :: us) (vs := .ref a :: vs) F (hr.mono hk) b (hx σ) I2 (.cons rfl r) q2⟩
/-- isinstance(e, C) of a caught exception, whatever its class -/
theorem pe_isX {a D : Addr} {oe : Obj} {pn : List (Addr × Obj)} {cls : Value} {d : Option Addr} (CD : ExcC X.K D) (hz : Zc cls d oe) (hf : ∃ vs, oe.data = .fields vs)
    (hg : Gl (X.suite a ((a, oe) :: pn)) "isinstance") (hm : X.mg "isinstance" = none) (hv : bootBuiltins "isinstance" = some (.builtin "isinstance")) (ha : PA (X.suite a ((a, oe) :: pn)) (e :: es) t)
    (h1 : starEach (e :: es) (X.suite a ((a, oe) :: pn)).env = (false, eval e (X.suite a ((a, oe) :: pn)).env) :: starEach es (X.suite a ((a, oe) :: pn)).env := by rfl) (h2 : (backTo pos (starEach es (X.suite a ((a, oe) :: pn)).env)).any (·.1) = false := by rfl) :
    PE (X.suite a ((a, oe) :: pn)) (.Call (.Name "isinstance" p) (e :: es) [] pos) (fun σ H Q => cls = .ref D ∧ d = none ∧ tCB (rIsE X.K D a) t σ H Q) := by
  refine ⟨fun pins s σ H Q I hw => ?_⟩
  obtain ⟨rfl, rfl, hw⟩ := hw
  exact (pe_callB (call_isE CD hz hf) hg hm hv ha (he := h1) (hpl := h2)).run pins s σ H Q I hw
end

/-! ### facts of the top beyond those of the hooks -/
/-- an exception class whose __init__ is its own -/
def oexB (K : PySem.W.Frag) (C : Addr) : Bool := match K.lookup C with
  | some ⟨.type t, _, .cls cd, sl⟩ => decide (t = "type") && (match cd.mro, sl.toList with
    | .ref D :: bm, [_, _, _, _, some (.builtin n), _] => decide (D = C) && (decide (n = "ValueError.__new__") && (!cd.hasDel && (cd.hasDict && PySem.HandSPX.refsVE bm)))
    | _, _ => false)
  | _ => false
theorem and2 {a b : Bool} (h : (a && b) = true) : a = true ∧ b = true := Bool.and_eq_true_iff.mp h
theorem oexB_ok {K : PySem.W.Frag} {C : Addr} (h : oexB K C = true) :
    ∃ nm q N bs bm sn sub ab col dd k0 k1 k2 k3 k5, K.lookup C = some (excClassObj nm q C N bs bm true sn sub ab col dd k0 k1 k2 k3 k5 "ValueError.__new__") ∧ PySem.HandSPX.refsVE bm = true := by
  unfold oexB at h
  split at h
  · rename_i t dd cd sl hl
    obtain ⟨h0, h⟩ := and2 h
    split at h
    · rename_i D bm k0 k1 k2 k3 n k5 e1 e2
      obtain ⟨h1, h⟩ := and2 h
      obtain ⟨h2, h⟩ := and2 h
      obtain ⟨h3, h⟩ := and2 h
      obtain ⟨h4, h5⟩ := and2 h
      have q0 : t = "type" := of_decide_eq_true h0
      have q1 : D = C := of_decide_eq_true h1
      have q2 : n = "ValueError.__new__" := of_decide_eq_true h2
      subst q0 q1 q2
      obtain ⟨nm, bs, mro, ns, qn, hd, sn, sub, ab, col, dl⟩ := cd
      dsimp only at e1 h3 h4
      subst e1
      subst h4
      have h3' : dl = false := by
        cases dl
        · rfl
        · cases h3
      subst h3'
      obtain ⟨l⟩ := sl
      have e3 : l = [k0, k1, k2, k3, some (.builtin "ValueError.__new__"), k5] := e2
      subst e3
      exact ⟨nm, qn, ns, bs, bm, sn, sub, ab, col, dd, k0, k1, k2, k3, k5, hl, h5⟩
    · cases h
  · cases h
inductive Ex where
  | oex (x : Str) | ity (x m : Str) | clf (x m : Str) | exi (x : Str) | kit (x y : Str) (b : Bool) | vei | tup (x : Str) (vs : List He.Dv) | fact (p : PySem.W.Frag → Bool)
def Ex.ok (K : PySem.W.Frag) : Ex → Bool
  | .oex x => oexB K (He.ga K x) && (He.eqO (PySem.W.findIn K (.ref (He.ga K x)) "__setattr__") (some (some (.builtin "object.__setattr__"))) &&
      (decide (PySem.W.subIn K (.ref (He.ga K x)) (.type "BaseException") = some true) && (decide (PySem.W.typeIn K (.ref (He.ga K x)) = some (.type "type")) && PySem.W.keepIn K (.ref (He.ga K x)))))
  | .ity x m => He.eqO (PySem.W.findIn K (.ref (He.ga K x)) m) (some (some (.ref (He.ma K (He.ga K x) m)))) && decide (PySem.W.typeIn K (.ref (He.ma K (He.ga K x) m)) = some (.type "function"))
  | .clf x m => PySem.W.readsIn K (He.ga K x) (.type "type") && (He.eqO (PySem.W.specialIn K (.ref (He.ga K x)) "__getattribute__") (some (some (.builtin "type.__getattribute__"))) &&
      ((match PySem.W.findCls K (.ref (He.ga K x)) (.type "type") m with | some (.val (.ref f)) => decide (f = He.ma K (He.ga K x) m) | _ => false) && PySem.W.keepIn K (.ref (He.ma K (He.ga K x) m))))
  | .exi x => He.eqO (PySem.W.findIn K (.ref (He.ga K x)) "__getattribute__") (some (some (.builtin "BaseException.__getattribute__"))) && (He.eqO (PySem.W.findIn K (.ref (He.ga K x)) "__getattr__") (some none) &&
      (decide (PySem.W.subIn K (.ref (He.ga K x)) (.type "BaseException") = some true) && (PySem.W.hasDictIn K (He.ga K x) && (He.eqO (PySem.W.findIn K (.ref (He.ga K x)) "__class__") (some (some (.builtin "object.__class__"))) &&
      (He.eqO (PySem.W.specialIn K (.builtin "object.__class__") "__get__") (some (some (.builtin "getset_descriptor.__get__"))) && (decide (PySem.W.takesIn K (.builtin "object.__class__") = some true) && decide (PySem.W.mroIn K (He.ga K x) (.type "object") = some true)))))))
  | .kit x y b => decide (PySem.W.kitOne K (.ref (He.ga K x)) (.ref (He.ga K y)) = some b)
  | .vei => (match PySem.W.findCls K (.type "ValueError") (.type "type") "__init__" with | some (.val (.builtin n)) => decide (n = "ValueError.__init__") | _ => false)
  | .tup x vs => He.tupB K x vs
  | .fact p => p K
section
variable {K : PySem.W.Frag} {x y m : Str} {b : Bool}
theorem oex_ok (c : (Ex.oex x).ok K = true) : OexC K (He.ga K x) := by
  obtain ⟨c1, c⟩ := and2 c
  obtain ⟨c2, c⟩ := and2 c
  obtain ⟨c3, c⟩ := and2 c
  obtain ⟨c4, c5⟩ := and2 c
  exact ⟨oexB_ok c1, He.eqO_ok c2, of_decide_eq_true c3, of_decide_eq_true c4, c5⟩
theorem ity_ok (c : (Ex.ity x m).ok K = true) : PySem.W.findIn K (.ref (He.ga K x)) m = some (some (.ref (He.ma K (He.ga K x) m))) ∧ PySem.W.typeIn K (.ref (He.ma K (He.ga K x) m)) = some (.type "function") := by
  obtain ⟨c1, c2⟩ := and2 c
  exact ⟨He.eqO_ok c1, of_decide_eq_true c2⟩
theorem clf_ok (c : (Ex.clf x m).ok K = true) : ClsFn K (He.ga K x) (.type "type") m (He.ma K (He.ga K x) m) := by
  obtain ⟨c1, c⟩ := and2 c
  obtain ⟨c2, c⟩ := and2 c
  obtain ⟨c3, c4⟩ := and2 c
  refine ⟨c1, He.eqO_ok c2, ?_, c4⟩
  split at c3
  · rename_i f hf
    rw [hf, of_decide_eq_true c3]
  · cases c3
theorem exi_ok (c : (Ex.exi x).ok K = true) : ExcC K (He.ga K x) := by
  obtain ⟨c1, c⟩ := and2 c
  obtain ⟨c2, c⟩ := and2 c
  obtain ⟨c3, c⟩ := and2 c
  obtain ⟨c4, c⟩ := and2 c
  obtain ⟨c5, c⟩ := and2 c
  obtain ⟨c6, c⟩ := and2 c
  obtain ⟨c7, c8⟩ := and2 c
  exact ⟨He.eqO_ok c1, He.eqO_ok c2, of_decide_eq_true c3, c4, He.eqO_ok c5, He.eqO_ok c6, of_decide_eq_true c7, of_decide_eq_true c8⟩
theorem kit_ok (c : (Ex.kit x y b).ok K = true) : PySem.W.kitOne K (.ref (He.ga K x)) (.ref (He.ga K y)) = some b := of_decide_eq_true c
theorem vei_ok (c : (Ex.vei).ok K = true) : PySem.W.findCls K (.type "ValueError") (.type "type") "__init__" = some (.val (.builtin "ValueError.__init__")) := by
  have c' : (match PySem.W.findCls K (.type "ValueError") (.type "type") "__init__" with | some (.val (.builtin n)) => decide (n = "ValueError.__init__") | _ => false) = true := c
  split at c'
  · rename_i n hn
    rw [hn, of_decide_eq_true c']
  · cases c'
theorem tup_ok {vs : List He.Dv} (c : (Ex.tup x vs).ok K = true) (H : Hp) : SqT K H (He.ga K x) (vs.map (He.Dv.v K)) := He.tupB_ok c H
end
/-- a const of the module, an int -/
theorem int_at {K : PySem.W.Frag} {h : Heap} {mg : Str → Option Value} {x : Str} {i : Int} (X : K.In h) (G : h.Ns mainGlobals mg) (c : (He.Fa.int x i).ok K = true) : ∃ u, mg x = some u ∧ RelV (.int i) u := by
  obtain ⟨t, e⟩ := He.int_ok X G c
  exact ⟨_, e, t, rfl⟩

section
variable {X : Cx} {x m : Str} {C f : Addr} {CX : CXT} {k j : Nat} {sp : Sp} {E : XK} {e : Expr} {es : List Expr} {t : TA} {p p1 p2 pos : Pos} {mc : Value}
theorem pe_cls {pl : Sem Bool} (c : ClsFn X.K C mc m f) (F : FnC X.prog X.w X.K X.mg X.base CX k f sp) (hr : Room j X.A) (hk : k ≤ j)
    (hg : Gl X x) (hm : X.mg x = some (.ref C)) (hx : Passes CX X E) (hP : PA X (e :: es) t)
    (hc : eval (.Call (.Attribute (.Name x p1) m p2) (e :: es) [] pos) X.env = (do
      let ov ← eval (.Name x p1) X.env
      standAt p2.atName
      let (g, first) ← holding [ov] (getMethod ov m pl)
      callWith pos g first (backTo pos (starEach (e :: es) X.env)) (backToKw pos (keywordEach [] X.env))) := by rfl)
    (hs1 : starEach (e :: es) X.env = (false, eval e X.env) :: starEach es X.env := by rfl)
    (hs2 : (backTo pos (starEach es X.env)).any (·.1) = false := by rfl) (hdb : (x == ("__debug__" : Str)) = false := by decide) :
    PE X (.Call (.Attribute (.Name x p1) m p2) (e :: es) [] pos) (tCall sp [] E t) := by
  obtain ⟨fd, ps, F, b, kp⟩ := F.ex
  exact pe_clsfn (pl := pl) c F (hr.mono hk) hg hm b .nil hx hP hc hs1 hs2 hdb
theorem pmk_bare (T : OexC X.K C) (i : PySem.W.findIn X.K (.ref C) "__init__" = some (some (.ref f))) (ti : PySem.W.typeIn X.K (.ref f) = some (.type "function"))
    (F : FnC X.prog X.w X.K X.mg X.base CX k f sp) (hr : Room j X.A) (hk : k + 1 ≤ j) (hx : Passes CX X (fun _ _ _ => False)) (hg : Gl X x) (hm : X.mg x = some (.ref C)) (hdb : (x == ("__debug__" : Str)) = false := by decide) :
    PMk X (.Call (.Name x p) [] [] pos) (fun _ H Q => (∀ a, H a = none → sp [.ref a] (upd H a (exo a C none)) (fun v H2 => v = .non ∧ H2 = upd H a (exo a C none)) (fun _ _ _ => False)) ∧ Q (.ref C) none H) := by
  obtain ⟨fd, ps, F, b, kp⟩ := F.ex
  exact pmk_bare0 T i ti F (hr.mono hk) b hx hg hm hdb
end

/-! ### the head's facts, the statics among them -/
def asR (g : Addr → Option Obj) : Nat → List Addr
  | 0 => [mainGlobals, cStatics]
  | n + 1 => He.growD g (asR g n)
abbrev AlR : Type := He.AlT × Bool
abbrev frR (n : Nat) (g : Addr → Option Obj) : PySem.W.Frag := He.frG g (asR g n)
def obsR (n : Nat) (fa : List He.Fa) (fn : List He.DefD) (ts : List He.Tab) (ex : List Ex) (g : Addr → Option Obj) : AlR := (He.obsT fa fn ts (frR n g), ex.all fun f => f.ok (frR n g))
structure SaysR (fa : List He.Fa) (fn : List He.DefD) (ts : List He.Tab) (ex : List Ex) (w : World) (K : PySem.W.Frag) : Prop where
  t : He.SaysT fa fn ts w K
  more : (ex.all fun f => f.ok K) = true
def hookR (n : Nat) (fa : List He.Fa) (fn : List He.DefD) (ts : List He.Tab) (ex : List Ex) : PySem.W.Hook where
  α := AlR
  obs := fun s => obsR n fa fn ts ex s.heap.get?
  val := fun w => (He.valT fn ts w, true)
  says := fun w h => ∃ K : PySem.W.Frag, K.In h ∧ SaysR fa fn ts ex w K
  of := fun _ _ e => ⟨_, He.frG_in, congrArg (fun z : AlR => z.1) e, congrArg (fun z : AlR => z.2) e⟩
  keeps := fun _ _ _ ⟨K, hK, c⟩ k => ⟨K, PySem.W.Frag.In.keeps hK k, c⟩
theorem obsR_eq {n : Nat} {fa : List He.Fa} {fn : List He.DefD} {ts : List He.Tab} {ex : List Ex} {g : Addr → Option Obj} {s : Shared} (h : ∀ a, g a = s.heap.get? a) : obsR n fa fn ts ex g = (hookR n fa fn ts ex).obs s := by
  have e : g = s.heap.get? := funext h
  rw [e]
  rfl
theorem ex_at {fa : List He.Fa} {fn : List He.DefD} {ts : List He.Tab} {ex : List Ex} {w : World} {K : PySem.W.Frag} (c : SaysR fa fn ts ex w K) (i : Nat) {f : Ex} (e : ex[i]? = some f) : f.ok K = true :=
  List.all_eq_true.mp c.more f (List.mem_of_getElem? e)

section
variable {X : Cx}
/-- a const of the module -/
theorem pe_gc {x : Str} {v : V} {pos : Pos} (hg : Gl X x) (h : ∃ u, X.mg x = some u ∧ RelV v u) (hdb : (x == ("__debug__" : Str)) = false := by decide) : PE X (.Name x pos) (tC v) := by
  obtain ⟨u, hm, r⟩ := h
  exact pe_glob hg hm r hdb
end

section
variable {X : Cx} {K : PySem.W.Frag}
/-- a field, the written part by name (within a comprehension's block) -/
theorem pe_fldK {e : Expr} {f : Str} {pos : Pos} {ta : TE} (hK : X.K = K) (he : PE X e ta) (hb : attributeBase e f X.env (eval e X.env) = eval e X.env) : PE X (.Attribute e f pos) (tFld K ta f) := by
  subst hK
  exact pe_fld he hb
end

/-! ### what is read without a change of the heap -/
section
variable {σ : L2.St} {H : Hp} {ta tb tc : TE} {i j l : Int} {a b : Bool} {K : PySem.W.Frag}
theorem val_orV (h1 : Val ta σ H (.bl a)) (h2 : Val tb σ H (.bl b)) : Val (tOrV ta tb) σ H (.bl (a || b)) := fun Q q => by
  refine h1 _ ⟨a, rfl, ?_⟩
  cases a
  · exact h2 Q q
  · exact q
theorem val_andV (h1 : Val ta σ H (.bl a)) (h2 : Val tb σ H (.bl b)) : Val (tAndV ta tb) σ H (.bl (a && b)) := fun Q q => by
  refine h1 _ ⟨a, rfl, ?_⟩
  cases a
  · exact q
  · exact h2 Q q
theorem val_i0 {g : Int → Int → V} (h1 : Val ta σ H (.int i)) (h2 : Val tb σ H (.int j)) : Val (tOp (rI0 g) ta tb) σ H (g i j) := fun Q q =>
  h1 _ (h2 _ ⟨i, j, rfl, rfl, q⟩)
theorem val_chain {p q : Int → Int → Bool} (h1 : Val ta σ H (.int i)) (h2 : Val tb σ H (.int j)) (h3 : Val tc σ H (.int l)) :
    Val (tChain (rI0 fun i j => .bl (p i j)) (rI0 fun i j => .bl (q i j)) ta tb tc) σ H (.bl (p i j && q j l)) := fun Q k => by
  refine h1 _ (h2 _ ⟨i, j, rfl, rfl, p i j, rfl, ?_⟩)
  cases e : p i j with
  | false =>
    rw [e] at k
    exact k
  | true =>
    rw [e] at k
    exact h3 _ ⟨j, l, rfl, rfl, k⟩
theorem ne_same {x y : V} {d e : PyData} {Q : Bool → Hp → Prop} (hx : Dp K H x d) (hy : Dp K H y e) (sx : SeqAt.shaped d = true) (sy : SeqAt.shaped e = true) (he : PyData.eqv d e = true) (k : Q false H) :
    rNeD K x y H (fun z H' => ∃ c, z = .bl c ∧ Q c H') := ⟨d, e, hx, hy, sx, sy, _, rfl, by
  rw [he]
  exact k⟩
theorem eq_same {x y : V} {d e : PyData} {Q : VK} (hx : Dp K H x d) (hy : Dp K H y e) (sx : SeqAt.shaped d = true) (sy : SeqAt.shaped e = true) (he : PyData.eqv d e = true) (k : Q (.bl true) H) :
    rEqD K x y H Q := ⟨d, e, hx, hy, sx, sy, by
  rw [he]
  exact k⟩
end

/-- the law's def: its function object is told -/
theorem fnk0 {P : Program} {w : World} {K : PySem.W.Frag} {mg : Str → Option Value} {base : Heap} {x qual : Str} {params : Arguments} {body : List Stmt} {scope : Scope} {kws : List (Str × V)} {f : Addr} {fd : FuncData} {N ps : List Str} {k : Nat} {sp : Sp}
    (F : FunD K x qual params body scope [] kws f fd) (S : FnScope N ps scope) (len : ∀ vs H Q E, sp vs H Q E → vs.length = ps.length)
    (hb : ∀ (cdv : Value) (A : Around) (outer : List Env) (s : Shared) (H : Hp) (vs : List V) (Q : VK) (E : XK), Room k (A.deeper (envOfC qual scope s.heap.objs.size f cdv)) → sp vs H Q E →
      ∃ t, PSs (cxOf CX0 P w K mg base N qual scope f cdv A outer s H E).nox body t ∧ t { nx := fun _ H' => Q .non H', rt := Q } (start N vs) H) : FnOk P w K mg base CX0 (k + 1) f fd ps sp :=
  F.ok S len fun cdv A outer s H vs Q E hr h => by
    obtain ⟨t, h1, h2⟩ := hb cdv A outer s H vs Q E hr h
    exact ⟨t, h1.nox, h2⟩
end Rb
/-! Objects by their fields; a memory as it lies in the heap. -/
namespace Rb
open PySem PySem.Spec PyProof.Rows L2
/-! ### fields by names -/
def fix (f : Str) : List Str → Option Nat
  | [] => none
  | n :: r => if f = n then some 0 else (fix f r).map (· + 1)
theorem zl {f : Str} {v : V} : ∀ {ns : List Str} {vs : List V} {i : Nat}, fix f ns = some i → vs[i]? = some v → (List.zip ns vs).lookup f = some v
  | [], _, _, h, _ => by cases h
  | n :: r, [], i, h, hv => by simp at hv
  | n :: r, x :: vs, i, h, hv => by
    unfold fix at h
    by_cases e : f = n
    · rw [if_pos e] at h
      cases h
      subst e
      show List.lookup f ((f, x) :: List.zip r vs) = some v
      simp at hv
      rw [List.lookup_cons_self, hv]
    · rw [if_neg e] at h
      cases q : fix f r with
      | none =>
        rw [q] at h
        cases h
      | some j =>
        rw [q] at h
        cases h
        show List.lookup f ((n, x) :: List.zip r vs) = some v
        have e' : (f == n) = false := by simpa using e
        rw [List.lookup_cons, e']
        exact zl q (by simpa using hv)
theorem zn {f : Str} : ∀ {ns : List Str} {vs : List V}, fix f ns = none → (List.zip ns vs).lookup f = none
  | [], _, _ => rfl
  | n :: r, [], _ => rfl
  | n :: r, x :: vs, h => by
    unfold fix at h
    by_cases e : f = n
    · rw [if_pos e] at h
      cases h
    · rw [if_neg e] at h
      cases q : fix f r with
      | some j =>
        rw [q] at h
        cases h
      | none =>
        show List.lookup f ((n, x) :: List.zip r vs) = none
        have e' : (f == n) = false := by simpa using e
        rw [List.lookup_cons, e']
        exact zn q
theorem zp {f : Str} {v : V} : ∀ {ns : List Str} {vs : List V} {i : Nat}, fix f ns = some i → ns.length = vs.length → putF f v (List.zip ns vs) = List.zip ns (vs.set i v)
  | [], _, _, h, _ => by cases h
  | n :: r, [], i, h, hl => by cases hl
  | n :: r, x :: vs, i, h, hl => by
    unfold fix at h
    by_cases e : f = n
    · rw [if_pos e] at h
      cases h
      subst e
      show (if f = f then (f, v) :: List.zip r vs else _) = (f, v) :: List.zip r vs
      rw [if_pos rfl]
    · rw [if_neg e] at h
      cases q : fix f r with
      | none =>
        rw [q] at h
        cases h
      | some j =>
        rw [q] at h
        cases h
        show (if n = f then (n, v) :: List.zip r vs else (n, x) :: putF f v (List.zip r vs)) = (n, x) :: List.zip r (vs.set j v)
        rw [if_neg (fun z => e z.symm), zp q (Nat.succ.inj hl)]
theorem zx {f : Str} {v : V} : ∀ {ns : List Str} {vs : List V}, fix f ns = none → ns.length = vs.length → putF f v (List.zip ns vs) = List.zip (ns ++ [f]) (vs ++ [v])
  | [], [], _, _ => rfl
  | [], _ :: _, _, hl => by cases hl
  | n :: r, [], _, hl => by cases hl
  | n :: r, x :: vs, h, hl => by
    unfold fix at h
    by_cases e : f = n
    · rw [if_pos e] at h
      cases h
    · rw [if_neg e] at h
      cases q : fix f r with
      | some j =>
        rw [q] at h
        cases h
      | none =>
        show (if n = f then (n, v) :: List.zip r vs else (n, x) :: putF f v (List.zip r vs)) = (n, x) :: List.zip (r ++ [f]) (vs ++ [v])
        rw [if_neg (fun z => e z.symm), zx q (Nat.succ.inj hl)]
/-! ### the objects of a memory -/
def gNames : List Str := ["_entries", "_queue", "_tickets"]
def gFld (e q : Addr) (n : Int) : List (Str × V) := List.zip gNames [.ref e, .ref q, .int n]
def mNames : List Str := ["count", "guards", "_cells", "_blocks", "_journals", "_log"]
def mFld (n : Int) (aG aC aB aJ aL : Addr) : List (Str × V) := List.zip mNames [.int n, .ref aG, .ref aC, .ref aB, .ref aJ, .ref aL]
/-- a guard: what its entries, its queue and its tickets are -/
structure GS where
  ents : List (Key × V)
  que : List V
  tix : Int
/-- where a guard lies: the object, its dict, its entries, its queue -/
structure GL where
  g : Addr
  d : Addr
  e : Addr
  q : Addr
def GL.all (L : GL) : List Addr := [L.d, L.g, L.e, L.q]
structure GuardAt (C : Addr) (L : GL) (H : Hp) (G : GS) : Prop where
  og : H L.g = some (.ins C L.d (gFld L.e L.q G.tix))
  od : H L.d = some (.own L.g)
  oe : H L.e = some (.dK G.ents)
  oq : H L.q = some (.lst G.que)
theorem GuardAt.keep {C : Addr} {L : GL} {H H' : Hp} {G : GS} (h : GuardAt C L H G) (k : ∀ b ∈ L.all, H' b = H b) : GuardAt C L H' G :=
  ⟨(k _ (by simp [GL.all])).trans h.og, (k _ (by simp [GL.all])).trans h.od, (k _ (by simp [GL.all])).trans h.oe, (k _ (by simp [GL.all])).trans h.oq⟩
structure MS where
  count : Int
  cells : List V
  bl : Nat → List V
  jo : List V
  log : List V
  gs : Nat → GS
structure ML where
  m : Addr
  d : Addr
  aG : Addr
  aC : Addr
  aB : Addr
  bl : Nat → Addr
  aJ : Addr
  aL : Addr
  gs : Nat → GL
def ML.all (L : ML) : List Addr := [L.m, L.d, L.aG] ++ (L.gs 0).all ++ (L.gs 1).all ++ [L.aC, L.aB, L.bl 0, L.bl 1, L.aJ, L.aL]
structure MemAt (Cm Cg : Addr) (L : ML) (H : Hp) (M : MS) : Prop where
  om : H L.m = some (.ins Cm L.d (mFld M.count L.aG L.aC L.aB L.aJ L.aL))
  od : H L.d = some (.own L.m)
  og : H L.aG = some (.lst [.ref (L.gs 0).g, .ref (L.gs 1).g])
  oc : H L.aC = some (.lst M.cells)
  ob : H L.aB = some (.lst [.ref (L.bl 0), .ref (L.bl 1)])
  obl : ∀ d, d < 2 → H (L.bl d) = some (.lst (M.bl d))
  oj : H L.aJ = some (.lst M.jo)
  ol : H L.aL = some (.lst M.log)
  gu : ∀ d, d < 2 → GuardAt Cg (L.gs d) H (M.gs d)
  nd : L.all.Nodup
theorem lt2 {d : Nat} (h : d < 2) : d = 0 ∨ d = 1 := by omega
theorem ML.in_g {L : ML} {d : Nat} (hd : d < 2) {b : Addr} (h : b ∈ (L.gs d).all) : b ∈ L.all := by
  unfold ML.all
  rcases lt2 hd with rfl | rfl
  · exact List.mem_append_left _ (List.mem_append_left _ (List.mem_append_right _ h))
  · exact List.mem_append_left _ (List.mem_append_right _ h)
theorem ML.in_b {L : ML} {d : Nat} (hd : d < 2) : L.bl d ∈ L.all := by
  unfold ML.all
  rcases lt2 hd with rfl | rfl
  · simp
  · simp
/-- what lies outside of the memory does not matter -/
theorem MemAt.keep {Cm Cg : Addr} {L : ML} {H H' : Hp} {M : MS} (h : MemAt Cm Cg L H M) (k : ∀ b ∈ L.all, H' b = H b) : MemAt Cm Cg L H' M where
  om := (k _ (by simp [ML.all])).trans h.om
  od := (k _ (by simp [ML.all])).trans h.od
  og := (k _ (by simp [ML.all])).trans h.og
  oc := (k _ (by simp [ML.all])).trans h.oc
  ob := (k _ (by simp [ML.all])).trans h.ob
  obl := fun d hd => (k _ (ML.in_b hd)).trans (h.obl d hd)
  oj := (k _ (by simp [ML.all])).trans h.oj
  ol := (k _ (by simp [ML.all])).trans h.ol
  gu := fun d hd => (h.gu d hd).keep fun b hb => k b (ML.in_g hd hb)
  nd := h.nd
/-- what is tracked stays: heaps that only grow keep a memory -/
theorem MemAt.same {Cm Cg : Addr} {L : ML} {H H' : Hp} {M : MS} (h : MemAt Cm Cg L H M) (s : Same H H') : MemAt Cm Cg L H' M where
  om := s _ _ h.om
  od := s _ _ h.od
  og := s _ _ h.og
  oc := s _ _ h.oc
  ob := s _ _ h.ob
  obl := fun d hd => s _ _ (h.obl d hd)
  oj := s _ _ h.oj
  ol := s _ _ h.ol
  gu := fun d hd => ⟨s _ _ (h.gu d hd).og, s _ _ (h.gu d hd).od, s _ _ (h.gu d hd).oe, s _ _ (h.gu d hd).oq⟩
  nd := h.nd
theorem Same.new {H H' : Hp} {p : Addr} {o : HO} (s : Same H H') (h : H p = none) : Same H (upd H' p o) := fun b u e => by
  rw [upd_ne (ne_of_none e h)]
  exact s b u e
theorem free_upd {H : Hp} {p a : Addr} {o : HO} (h : upd H p o a = none) : a ≠ p ∧ H a = none := by
  by_cases e : a = p
  · rw [e, upd_same] at h
    cases h
  · rw [upd_ne e] at h
    exact ⟨e, h⟩

/-! ### addresses apart, all of them tracked -/
structure Trk (H : Hp) (S : List Addr) : Prop where
  nd : S.Nodup
  tr : ∀ a ∈ S, H a ≠ none
theorem Trk.not {H : Hp} {S : List Addr} {p : Addr} (t : Trk H S) (h : H p = none) : p ∉ S := fun m => t.tr p m h
theorem Trk.dom {H H' : Hp} {S : List Addr} (t : Trk H S) (k : ∀ a ∈ S, H a ≠ none → H' a ≠ none) : Trk H' S := ⟨t.nd, fun a m => k a m (t.tr a m)⟩
theorem dom_upd {H : Hp} {p a : Addr} {o : HO} (h : H a ≠ none) : upd H p o a ≠ none := by
  by_cases e : a = p
  · rw [e, upd_same]
    intro z
    cases z
  · rw [upd_ne e]
    exact h
theorem Trk.upd {H : Hp} {S : List Addr} {p : Addr} {o : HO} (t : Trk H S) : Trk (upd H p o) S := t.dom fun _ _ h => dom_upd h
theorem Trk.same {H H' : Hp} {S : List Addr} (t : Trk H S) (s : Same H H') : Trk H' S := t.dom fun a _ h => by
  cases q : H a with
  | none => exact absurd q h
  | some o =>
    rw [s a o q]
    intro z
    cases z
theorem Trk.add {H H' : Hp} {S : List Addr} {p : Addr} (t : Trk H S) (h : H p = none) (h' : H' p ≠ none) (k : ∀ a ∈ S, H a ≠ none → H' a ≠ none) : Trk H' (S ++ [p]) where
  nd := by
    rw [List.nodup_append]
    refine ⟨t.nd, by simp, fun a ha b hb e => ?_⟩
    rw [List.mem_singleton] at hb
    rw [e, hb] at ha
    exact t.not h ha
  tr := fun a ha => by
    rcases List.mem_append.mp ha with q | q
    · exact k a q (t.tr a q)
    · rw [List.mem_singleton] at q
      rw [q]
      exact h'
theorem Trk.new {H : Hp} {S : List Addr} {p : Addr} {o : HO} (t : Trk H S) (h : H p = none) : Trk (L2.upd H p o) (S ++ [p]) :=
  t.add h (by rw [upd_same]; intro z; cases z) fun a _ q => dom_upd q

theorem Trk.adds {H H' : Hp} {S ps : List Addr} (t : Trk H S) (hn : ps.Nodup) (h : ∀ p ∈ ps, H p = none) (h' : ∀ p ∈ ps, H' p ≠ none) (k : ∀ a ∈ S, H a ≠ none → H' a ≠ none) : Trk H' (S ++ ps) where
  nd := by
    rw [List.nodup_append]
    exact ⟨t.nd, hn, fun a ha b hb e => t.not (h b hb) (e ▸ ha)⟩
  tr := fun a ha => by
    rcases List.mem_append.mp ha with q | q
    · exact k a q (t.tr a q)
    · exact h' a q
theorem some_ne {o : HO} {x : Option HO} (h : x = some o) : x ≠ none := by
  rw [h]
  intro z
  cases z
theorem Trk.ne {H : Hp} {S : List Addr} {a b : Addr} {R : List Addr} (t : Trk H S) (e : S = R ++ [b]) (h : a ∈ R) : a ≠ b := by
  have n := t.nd
  rw [e, List.nodup_append] at n
  exact n.2.2 a h b (by simp)
/-- none of the addresses was tracked at first -/
theorem back {H H' : Hp} {a : Addr} (s : Same H H') (h : H' a = none) : H a = none := s.free h
end Rb
/-! More of the layer: joins, consts that are texts, values that tell their type. -/
namespace Rb
open PySem PySem.Spec PyProof.Rows L2
/-- a statement whose end is told by what is kept there -/
def tJoin (t : TS) : TS := fun D σ H => ∃ J : L2.St → Hp → Prop, t { D with nx := J } σ H ∧ ∀ σ' H', J σ' H' → D.nx σ' H'
theorem ps_join {X : Cx} {st : Stmt} {t : TS} (h : PS X st t) : PS X st (tJoin t) := ⟨fun pins s σ H D I hw => by
  obtain ⟨J, h1, h2⟩ := hw
  refine thn (h.run pins s σ H _ I h1) fun f s' q => ?_
  cases f with
  | next =>
    obtain ⟨σ', H', I', j⟩ := q
    exact ⟨σ', H', I', h2 _ _ j⟩
  | _ => exact q⟩
theorem str_at {K : PySem.W.Frag} {h : Heap} {mg : Str → Option Value} {x z : Str} (X : K.In h) (G : h.Ns mainGlobals mg) (c : (He.Fa.str x z).ok K = true) : ∃ u, mg x = some u ∧ RelV (.str z) u := by
  obtain ⟨t, e⟩ := He.str_ok X G c
  exact ⟨_, e, t, rfl⟩
theorem Same.seqT {K : PySem.W.Frag} {H H' : Hp} {a : Addr} {xs : List V} (e : Same H H') (h : SqT K H a xs) : SqT K H' a xs := by
  rcases h with (h | ⟨o, h⟩) | h
  · exact .inl (.inl (e _ _ h))
  · exact .inl (.inr ⟨o, e _ _ h⟩)
  · exact .inr h
/-! ### values that tell their type: flat ones and tuples -/
def El (H : Hp) : V → Prop
  | .non => True
  | .bl _ => True
  | .int _ => True
  | .str _ => True
  | .ref a => ∃ ys, H a = some (.tup ys)
  | _ => False
def tyN : V → String
  | .non => "NoneType"
  | .bl _ => "bool"
  | .int _ => "int"
  | .str _ => "str"
  | _ => "tuple"
theorem El.ty {K : PySem.W.Frag} {H : Hp} : ∀ {v : V}, El H v → TyB K H v (tyN v)
  | .non, _ => .non
  | .bl b, _ => .bl b
  | .int i, _ => .int i
  | .str x, _ => .str x
  | .ref a, h => by
    obtain ⟨ys, e⟩ := h
    exact .tup (SqT.of e)
theorem El.tx {K : PySem.W.Frag} {H : Hp} : ∀ {v : V}, El H v → TyX K H v (.type (tyN v))
  | .non, _ => .base .non
  | .bl b, _ => .base (.bl b)
  | .int i, _ => .base (.int i)
  | .str x, _ => .base (.str x)
  | .ref a, h => by
    obtain ⟨ys, e⟩ := h
    exact .base (.tup e)
theorem El.same {H H' : Hp} (s : Same H H') : ∀ {v : V}, El H v → El H' v
  | .non, _ => trivial
  | .bl _, _ => trivial
  | .int _, _ => trivial
  | .str _, _ => trivial
  | .ref a, h => by
    obtain ⟨ys, e⟩ := h
    exact ⟨ys, s _ _ e⟩
/-- a list that is written is no tuple -/
theorem El.put {H : Hp} {p : Addr} {xs : List V} {o : HO} (e : H p = some (.lst xs)) : ∀ {v : V}, El H v → El (upd H p o) v
  | .non, _ => trivial
  | .bl _, _ => trivial
  | .int _, _ => trivial
  | .str _, _ => trivial
  | .ref a, h => by
    obtain ⟨ys, k⟩ := h
    refine ⟨ys, ?_⟩
    rw [upd_ne (fun z => by subst z; rw [e] at k; cases k)]
    exact k
/-- what is new since may be written -/
theorem Same.put {H H' : Hp} {p : Addr} {o : HO} (s : Same H H') (h : H p = none) : Same H (upd H' p o) := fun b u e => by
  rw [upd_ne (ne_of_none e h)]
  exact s b u e
/-- a list or a tuple of such -/
def Sv (H : Hp) (v : V) (t : Bool) (xs : List V) : Prop := ∃ a, v = .ref a ∧ (if t then H a = some (.tup xs) else H a = some (.lst xs)) ∧ xs.length ≤ 64 ∧ ∀ x ∈ xs, El H x
theorem Sv.ty {K : PySem.W.Frag} {H : Hp} {v : V} {t : Bool} {xs : List V} (h : Sv H v t xs) : TyB K H v (if t then "tuple" else "list") := by
  obtain ⟨a, rfl, e, _⟩ := h
  cases t
  · exact .lst (SqL.of e)
  · exact .tup (SqT.of e)
theorem Sv.tx {K : PySem.W.Frag} {H : Hp} {v : V} {t : Bool} {xs : List V} (h : Sv H v t xs) : TyX K H v (.type (if t then "tuple" else "list")) := by
  obtain ⟨a, rfl, e, _⟩ := h
  cases t
  · exact .base (.lst e)
  · exact .base (.tup e)
theorem Sv.same {H H' : Hp} (s : Same H H') {v : V} {t : Bool} {xs : List V} (h : Sv H v t xs) : Sv H' v t xs := by
  obtain ⟨a, rfl, e, l, k⟩ := h
  refine ⟨a, rfl, ?_, l, fun x hx => (k x hx).same s⟩
  cases t
  · exact s _ _ e
  · exact s _ _ e
end Rb
namespace Rb
open PySem PySem.Spec PyProof.Rows L2
def top (i : Nat) : Stmt := PySem.Challenge.pw_ringbound_k04_rings.main.body.getD i (.Pass ⟨0, 0, 0, 0⟩)
abbrev s_RingError___init__ : Stmt := inClass (top 1) 0
def d_RingError___init__ : He.DefD := ⟨("RingError", some "__init__"), "__init__", "RingError.__init__", defArgs s_RingError___init__, defBody s_RingError___init__, defScope s_RingError___init__, [], []⟩
theorem sc_RingError___init__ : FnScope ["self"] ["self"] (defScope s_RingError___init__) := ⟨rfl, rfl, rfl, by decide +kernel, rfl, by decide +kernel, by decide +kernel⟩
abbrev s_NotValid___init__ : Stmt := inClass (top 2) 0
def d_NotValid___init__ : He.DefD := ⟨("NotValid", some "__init__"), "__init__", "NotValid.__init__", defArgs s_NotValid___init__, defBody s_NotValid___init__, defScope s_NotValid___init__, [], []⟩
theorem sc_NotValid___init__ : FnScope ["self"] ["self"] (defScope s_NotValid___init__) := ⟨rfl, rfl, rfl, by decide +kernel, rfl, by decide +kernel, by decide +kernel⟩
abbrev s_is_integer : Stmt := top 4
def d_is_integer : He.DefD := ⟨("is_integer", none), "is_integer", "is_integer", defArgs s_is_integer, defBody s_is_integer, defScope s_is_integer, [], []⟩
theorem sc_is_integer : FnScope ["value"] ["value"] (defScope s_is_integer) := ⟨rfl, rfl, rfl, by decide +kernel, rfl, by decide +kernel, by decide +kernel⟩
abbrev s_is_number : Stmt := top 5
def d_is_number : He.DefD := ⟨("is_number", none), "is_number", "is_number", defArgs s_is_number, defBody s_is_number, defScope s_is_number, [], []⟩
theorem sc_is_number : FnScope ["value", "limit"] ["value", "limit"] (defScope s_is_number) := ⟨rfl, rfl, rfl, by decide +kernel, rfl, by decide +kernel, by decide +kernel⟩
abbrev s_buffer_page : Stmt := top 16
def d_buffer_page : He.DefD := ⟨("buffer_page", none), "buffer_page", "buffer_page", defArgs s_buffer_page, defBody s_buffer_page, defScope s_buffer_page, [], []⟩
theorem sc_buffer_page : FnScope ["tag"] ["tag"] (defScope s_buffer_page) := ⟨rfl, rfl, rfl, by decide +kernel, rfl, by decide +kernel, by decide +kernel⟩
abbrev s_slot_of : Stmt := top 17
def d_slot_of : He.DefD := ⟨("slot_of", none), "slot_of", "slot_of", defArgs s_slot_of, defBody s_slot_of, defScope s_slot_of, [], []⟩
theorem sc_slot_of : FnScope ["number"] ["number"] (defScope s_slot_of) := ⟨rfl, rfl, rfl, by decide +kernel, rfl, by decide +kernel, by decide +kernel⟩
abbrev s_phase_of : Stmt := top 18
def d_phase_of : He.DefD := ⟨("phase_of", none), "phase_of", "phase_of", defArgs s_phase_of, defBody s_phase_of, defScope s_phase_of, [], []⟩
theorem sc_phase_of : FnScope ["number"] ["number"] (defScope s_phase_of) := ⟨rfl, rfl, rfl, by decide +kernel, rfl, by decide +kernel, by decide +kernel⟩
abbrev s_is_tag : Stmt := top 19
def d_is_tag : He.DefD := ⟨("is_tag", none), "is_tag", "is_tag", defArgs s_is_tag, defBody s_is_tag, defScope s_is_tag, [], []⟩
theorem sc_is_tag : FnScope ["part"] ["part"] (defScope s_is_tag) := ⟨rfl, rfl, rfl, by decide +kernel, rfl, by decide +kernel, by decide +kernel⟩
abbrev s_is_order : Stmt := top 20
def d_is_order : He.DefD := ⟨("is_order", none), "is_order", "is_order", defArgs s_is_order, defBody s_is_order, defScope s_is_order, [], []⟩
theorem sc_is_order : FnScope ["tag", "kind", "block"] ["tag", "kind", "block"] (defScope s_is_order) := ⟨rfl, rfl, rfl, by decide +kernel, rfl, by decide +kernel, by decide +kernel⟩
abbrev s_is_entry_number : Stmt := top 21
def d_is_entry_number : He.DefD := ⟨("is_entry_number", none), "is_entry_number", "is_entry_number", defArgs s_is_entry_number, defBody s_is_entry_number, defScope s_is_entry_number, [], []⟩
theorem sc_is_entry_number : FnScope ["part"] ["part"] (defScope s_is_entry_number) := ⟨rfl, rfl, rfl, by decide +kernel, rfl, by decide +kernel, by decide +kernel⟩
abbrev s_has_phase : Stmt := top 22
def d_has_phase : He.DefD := ⟨("has_phase", none), "has_phase", "has_phase", defArgs s_has_phase, defBody s_has_phase, defScope s_has_phase, [], []⟩
theorem sc_has_phase : FnScope ["part", "number"] ["part", "number"] (defScope s_has_phase) := ⟨rfl, rfl, rfl, by decide +kernel, rfl, by decide +kernel, by decide +kernel⟩
abbrev s_descriptor : Stmt := top 23
def d_descriptor : He.DefD := ⟨("descriptor", none), "descriptor", "descriptor", defArgs s_descriptor, defBody s_descriptor, defScope s_descriptor, [], []⟩
theorem sc_descriptor : FnScope ["tag", "kind", "block", "sequence"] ["tag", "kind", "block", "sequence"] (defScope s_descriptor) := ⟨rfl, rfl, rfl, by decide +kernel, rfl, by decide +kernel, by decide +kernel⟩
abbrev s_completion : Stmt := top 24
def d_completion : He.DefD := ⟨("completion", none), "completion", "completion", defArgs s_completion, defBody s_completion, defScope s_completion, [], []⟩
theorem sc_completion : FnScope ["tag", "number"] ["tag", "number"] (defScope s_completion) := ⟨rfl, rfl, rfl, by decide +kernel, rfl, by decide +kernel, by decide +kernel⟩
abbrev s_is_new_descriptor : Stmt := top 25
def d_is_new_descriptor : He.DefD := ⟨("is_new_descriptor", none), "is_new_descriptor", "is_new_descriptor", defArgs s_is_new_descriptor, defBody s_is_new_descriptor, defScope s_is_new_descriptor, [], []⟩
theorem sc_is_new_descriptor : FnScope ["value", "number", "tag", "kind", "block", "phase", "sequence"] ["value", "number"] (defScope s_is_new_descriptor) := ⟨rfl, rfl, rfl, by decide +kernel, rfl, by decide +kernel, by decide +kernel⟩
abbrev s_is_completion : Stmt := top 26
def d_is_completion : He.DefD := ⟨("is_completion", none), "is_completion", "is_completion", defArgs s_is_completion, defBody s_is_completion, defScope s_is_completion, [], []⟩
theorem sc_is_completion : FnScope ["value", "tag", "word", "phase"] ["value"] (defScope s_is_completion) := ⟨rfl, rfl, rfl, by decide +kernel, rfl, by decide +kernel, by decide +kernel⟩
abbrev s_is_new_completion : Stmt := top 27
def d_is_new_completion : He.DefD := ⟨("is_new_completion", none), "is_new_completion", "is_new_completion", defArgs s_is_new_completion, defBody s_is_new_completion, defScope s_is_new_completion, [], []⟩
theorem sc_is_new_completion : FnScope ["value", "number"] ["value", "number"] (defScope s_is_new_completion) := ⟨rfl, rfl, rfl, by decide +kernel, rfl, by decide +kernel, by decide +kernel⟩
abbrev s__law_tape : Stmt := top 29
def d__law_tape : He.DefD := ⟨("_law_tape", none), "_law_tape", "_law_tape", defArgs s__law_tape, defBody s__law_tape, defScope s__law_tape, [], []⟩
theorem sc__law_tape : FnScope ["script", "tape", "k", "value", "step"] ["script"] (defScope s__law_tape) := ⟨rfl, rfl, rfl, by decide +kernel, rfl, by decide +kernel, by decide +kernel⟩
abbrev s__law_at : Stmt := top 30
def d__law_at : He.DefD := ⟨("_law_at", none), "_law_at", "_law_at", defArgs s__law_at, defBody s__law_at, defScope s__law_at, [], []⟩
theorem sc__law_at : FnScope ["tape", "k"] ["tape", "k"] (defScope s__law_at) := ⟨rfl, rfl, rfl, by decide +kernel, rfl, by decide +kernel, by decide +kernel⟩
abbrev s__law_integer : Stmt := top 31
def d__law_integer : He.DefD := ⟨("_law_integer", none), "_law_integer", "_law_integer", defArgs s__law_integer, defBody s__law_integer, defScope s__law_integer, [], []⟩
theorem sc__law_integer : FnScope ["value", "low", "high"] ["value", "low", "high"] (defScope s__law_integer) := ⟨rfl, rfl, rfl, by decide +kernel, rfl, by decide +kernel, by decide +kernel⟩
abbrev s__law_phase : Stmt := top 32
def d__law_phase : He.DefD := ⟨("_law_phase", none), "_law_phase", "_law_phase", defArgs s__law_phase, defBody s__law_phase, defScope s__law_phase, [], []⟩
theorem sc__law_phase : FnScope ["number"] ["number"] (defScope s__law_phase) := ⟨rfl, rfl, rfl, by decide +kernel, rfl, by decide +kernel, by decide +kernel⟩
abbrev s__law_told : Stmt := top 33
def d__law_told : He.DefD := ⟨("_law_told", none), "_law_told", "_law_told", defArgs s__law_told, defBody s__law_told, defScope s__law_told, [], []⟩
theorem sc__law_told : FnScope ["act", "parts", "e"] ["act", "parts"] (defScope s__law_told) := ⟨rfl, rfl, rfl, by decide +kernel, rfl, by decide +kernel, by decide +kernel⟩
abbrev s__law_fit : Stmt := top 34
def d__law_fit : He.DefD := ⟨("_law_fit", none), "_law_fit", "_law_fit", defArgs s__law_fit, defBody s__law_fit, defScope s__law_fit, [], []⟩
theorem sc__law_fit : FnScope ["parts", "kind"] ["parts"] (defScope s__law_fit) := ⟨rfl, rfl, rfl, by decide +kernel, rfl, by decide +kernel, by decide +kernel⟩
abbrev s__law_new_descriptor : Stmt := top 35
def d__law_new_descriptor : He.DefD := ⟨("_law_new_descriptor", none), "_law_new_descriptor", "_law_new_descriptor", defArgs s__law_new_descriptor, defBody s__law_new_descriptor, defScope s__law_new_descriptor, [], []⟩
theorem sc__law_new_descriptor : FnScope ["value", "number"] ["value", "number"] (defScope s__law_new_descriptor) := ⟨rfl, rfl, rfl, by decide +kernel, rfl, by decide +kernel, by decide +kernel⟩
abbrev s__law_new_completion : Stmt := top 36
def d__law_new_completion : He.DefD := ⟨("_law_new_completion", none), "_law_new_completion", "_law_new_completion", defArgs s__law_new_completion, defBody s__law_new_completion, defScope s__law_new_completion, [], []⟩
theorem sc__law_new_completion : FnScope ["value", "number"] ["value", "number"] (defScope s__law_new_completion) := ⟨rfl, rfl, rfl, by decide +kernel, rfl, by decide +kernel, by decide +kernel⟩
abbrev s__law_same : Stmt := top 37
def d__law_same : He.DefD := ⟨("_law_same", none), "_law_same", "_law_same", defArgs s__law_same, defBody s__law_same, defScope s__law_same, [], []⟩
theorem sc__law_same : FnScope ["told", "due"] ["told", "due"] (defScope s__law_same) := ⟨rfl, rfl, rfl, by decide +kernel, rfl, by decide +kernel, by decide +kernel⟩
abbrev s__law_bent : Stmt := top 38
def d__law_bent : He.DefD := ⟨("_law_bent", none), "_law_bent", "_law_bent", defArgs s__law_bent, defBody s__law_bent, defScope s__law_bent, [], []⟩
theorem sc__law_bent : FnScope ["value", "number", "odd", "kind", "place"] ["value", "number", "odd"] (defScope s__law_bent) := ⟨rfl, rfl, rfl, by decide +kernel, rfl, by decide +kernel, by decide +kernel⟩
abbrev s_law : Stmt := top 39
def d_law : He.DefD := ⟨("law", none), "law", "law", defArgs s_law, defBody s_law, defScope s_law, [], []⟩
theorem sc_law : FnScope ["script", "tape", "k", "number", "pick", "odd", "parts", "told", "other", "value", "tag"] ["script"] (defScope s_law) := ⟨rfl, rfl, rfl, by decide +kernel, rfl, by decide +kernel, by decide +kernel⟩
structure Top (K : PySem.W.Frag) (mg : Str → Option Value) : Prop where
  b_ValueError : mg "ValueError" = none
  vei : PySem.W.findCls K (.type "ValueError") (.type "type") "__init__" = some (.val (.builtin "ValueError.__init__"))
  cf_RingError___init__ : ClsFn K (He.ga K "RingError") (.type "type") "__init__" (He.ma K (He.ga K "RingError") "__init__")
  g_RingError : mg "RingError" = some (.ref (He.ga K "RingError"))
  b_type : mg "type" = none
  b_int : mg "int" = none
  g_is_integer : mg "is_integer" = some (.ref (He.ga K "is_integer"))
  c_FIRST_BUFFER : ∃ u, mg "FIRST_BUFFER" = some u ∧ RelV (.int 2) u
  c_SLOTS : ∃ u, mg "SLOTS" = some u ∧ RelV (.int 4) u
  g_is_number : mg "is_number" = some (.ref (He.ga K "is_number"))
  c_TAGS : ∃ u, mg "TAGS" = some u ∧ RelV (.int 4) u
  g_is_tag : mg "is_tag" = some (.ref (He.ga K "is_tag"))
  b_str : mg "str" = none
  c_KINDS : ∃ u, mg "KINDS" = some u ∧ RelV (.ref (He.ga K "KINDS")) u
  c_BLOCKS : ∃ u, mg "BLOCKS" = some u ∧ RelV (.int 8) u
  g_phase_of : mg "phase_of" = some (.ref (He.ga K "phase_of"))
  g_is_order : mg "is_order" = some (.ref (He.ga K "is_order"))
  g_is_entry_number : mg "is_entry_number" = some (.ref (He.ga K "is_entry_number"))
  ex_NotValid : OexC K (He.ga K "NotValid")
  ini_NotValid : PySem.W.findIn K (.ref (He.ga K "NotValid")) "__init__" = some (some (.ref (He.ma K (He.ga K "NotValid") "__init__")))
  ity_NotValid : PySem.W.typeIn K (.ref (He.ma K (He.ga K "NotValid") "__init__")) = some (.type "function")
  g_NotValid : mg "NotValid" = some (.ref (He.ga K "NotValid"))
  c_DONE : ∃ u, mg "DONE" = some u ∧ RelV (.str "done") u
  b_tuple : mg "tuple" = none
  b_len : mg "len" = none
  g_has_phase : mg "has_phase" = some (.ref (He.ga K "has_phase"))
  c_PHASES : ∃ u, mg "PHASES" = some u ∧ RelV (.int 2) u
  g_is_completion : mg "is_completion" = some (.ref (He.ga K "is_completion"))
  b_range : mg "range" = none
  b_abs : mg "abs" = none
  b_isinstance : mg "isinstance" = none
  b_bool : mg "bool" = none
  g_descriptor : mg "descriptor" = some (.ref (He.ga K "descriptor"))
  g_completion : mg "completion" = some (.ref (He.ga K "completion"))
  xc_NotValid : ExcC K (He.ga K "NotValid")
  g__law_integer : mg "_law_integer" = some (.ref (He.ga K "_law_integer"))
  g__law_fit : mg "_law_fit" = some (.ref (He.ga K "_law_fit"))
  g__law_phase : mg "_law_phase" = some (.ref (He.ga K "_law_phase"))
  b_list : mg "list" = none
  c_SUBMISSIONS : ∃ u, mg "SUBMISSIONS" = some u ∧ RelV (.int 0) u
  c_COMPLETIONS : ∃ u, mg "COMPLETIONS" = some u ∧ RelV (.int 1) u
  g_buffer_page : mg "buffer_page" = some (.ref (He.ga K "buffer_page"))
  g__law_tape : mg "_law_tape" = some (.ref (He.ga K "_law_tape"))
  b_min : mg "min" = none
  g__law_at : mg "_law_at" = some (.ref (He.ga K "_law_at"))
  g_slot_of : mg "slot_of" = some (.ref (He.ga K "slot_of"))
  g__law_told : mg "_law_told" = some (.ref (He.ga K "_law_told"))
  g__law_bent : mg "_law_bent" = some (.ref (He.ga K "_law_bent"))
  g__law_same : mg "_law_same" = some (.ref (He.ga K "_law_same"))
  g_is_new_descriptor : mg "is_new_descriptor" = some (.ref (He.ga K "is_new_descriptor"))
  g__law_new_descriptor : mg "_law_new_descriptor" = some (.ref (He.ga K "_law_new_descriptor"))
  g_is_new_completion : mg "is_new_completion" = some (.ref (He.ga K "is_new_completion"))
  g__law_new_completion : mg "_law_new_completion" = some (.ref (He.ga K "_law_new_completion"))
  exm_NotValid_RingError_T : PySem.W.exmOne K (.ref (He.ga K "NotValid")) (.ref (He.ga K "RingError")) = some true
  kit_NotValid_NotValid_T : PySem.W.kitOne K (.ref (He.ga K "NotValid")) (.ref (He.ga K "NotValid")) = some true
  g_law : mg "law" = some (.ref (He.ga K "law"))
  t_KINDS : ∀ H : Hp, SqT K H (He.ga K "KINDS") [V.str "read", V.str "write"]
  d_RingError___init__ : ∃ fd, FunD K "__init__" "RingError.__init__" (defArgs s_RingError___init__) (defBody s_RingError___init__) (defScope s_RingError___init__) [] [] (He.ma K (He.ga K "RingError") "__init__") fd
  d_NotValid___init__ : ∃ fd, FunD K "__init__" "NotValid.__init__" (defArgs s_NotValid___init__) (defBody s_NotValid___init__) (defScope s_NotValid___init__) [] [] (He.ma K (He.ga K "NotValid") "__init__") fd
  d_is_integer : ∃ fd, FunD K "is_integer" "is_integer" (defArgs s_is_integer) (defBody s_is_integer) (defScope s_is_integer) [] [] (He.ga K "is_integer") fd
  d_is_number : ∃ fd, FunD K "is_number" "is_number" (defArgs s_is_number) (defBody s_is_number) (defScope s_is_number) [] [] (He.ga K "is_number") fd
  d_buffer_page : ∃ fd, FunD K "buffer_page" "buffer_page" (defArgs s_buffer_page) (defBody s_buffer_page) (defScope s_buffer_page) [] [] (He.ga K "buffer_page") fd
  d_slot_of : ∃ fd, FunD K "slot_of" "slot_of" (defArgs s_slot_of) (defBody s_slot_of) (defScope s_slot_of) [] [] (He.ga K "slot_of") fd
  d_phase_of : ∃ fd, FunD K "phase_of" "phase_of" (defArgs s_phase_of) (defBody s_phase_of) (defScope s_phase_of) [] [] (He.ga K "phase_of") fd
  d_is_tag : ∃ fd, FunD K "is_tag" "is_tag" (defArgs s_is_tag) (defBody s_is_tag) (defScope s_is_tag) [] [] (He.ga K "is_tag") fd
  d_is_order : ∃ fd, FunD K "is_order" "is_order" (defArgs s_is_order) (defBody s_is_order) (defScope s_is_order) [] [] (He.ga K "is_order") fd
  d_is_entry_number : ∃ fd, FunD K "is_entry_number" "is_entry_number" (defArgs s_is_entry_number) (defBody s_is_entry_number) (defScope s_is_entry_number) [] [] (He.ga K "is_entry_number") fd
  d_has_phase : ∃ fd, FunD K "has_phase" "has_phase" (defArgs s_has_phase) (defBody s_has_phase) (defScope s_has_phase) [] [] (He.ga K "has_phase") fd
  d_descriptor : ∃ fd, FunD K "descriptor" "descriptor" (defArgs s_descriptor) (defBody s_descriptor) (defScope s_descriptor) [] [] (He.ga K "descriptor") fd
  d_completion : ∃ fd, FunD K "completion" "completion" (defArgs s_completion) (defBody s_completion) (defScope s_completion) [] [] (He.ga K "completion") fd
  d_is_new_descriptor : ∃ fd, FunD K "is_new_descriptor" "is_new_descriptor" (defArgs s_is_new_descriptor) (defBody s_is_new_descriptor) (defScope s_is_new_descriptor) [] [] (He.ga K "is_new_descriptor") fd
  d_is_completion : ∃ fd, FunD K "is_completion" "is_completion" (defArgs s_is_completion) (defBody s_is_completion) (defScope s_is_completion) [] [] (He.ga K "is_completion") fd
  d_is_new_completion : ∃ fd, FunD K "is_new_completion" "is_new_completion" (defArgs s_is_new_completion) (defBody s_is_new_completion) (defScope s_is_new_completion) [] [] (He.ga K "is_new_completion") fd
  d__law_tape : ∃ fd, FunD K "_law_tape" "_law_tape" (defArgs s__law_tape) (defBody s__law_tape) (defScope s__law_tape) [] [] (He.ga K "_law_tape") fd
  d__law_at : ∃ fd, FunD K "_law_at" "_law_at" (defArgs s__law_at) (defBody s__law_at) (defScope s__law_at) [] [] (He.ga K "_law_at") fd
  d__law_integer : ∃ fd, FunD K "_law_integer" "_law_integer" (defArgs s__law_integer) (defBody s__law_integer) (defScope s__law_integer) [] [] (He.ga K "_law_integer") fd
  d__law_phase : ∃ fd, FunD K "_law_phase" "_law_phase" (defArgs s__law_phase) (defBody s__law_phase) (defScope s__law_phase) [] [] (He.ga K "_law_phase") fd
  d__law_told : ∃ fd, FunD K "_law_told" "_law_told" (defArgs s__law_told) (defBody s__law_told) (defScope s__law_told) [] [] (He.ga K "_law_told") fd
  d__law_fit : ∃ fd, FunD K "_law_fit" "_law_fit" (defArgs s__law_fit) (defBody s__law_fit) (defScope s__law_fit) [] [] (He.ga K "_law_fit") fd
  d__law_new_descriptor : ∃ fd, FunD K "_law_new_descriptor" "_law_new_descriptor" (defArgs s__law_new_descriptor) (defBody s__law_new_descriptor) (defScope s__law_new_descriptor) [] [] (He.ga K "_law_new_descriptor") fd
  d__law_new_completion : ∃ fd, FunD K "_law_new_completion" "_law_new_completion" (defArgs s__law_new_completion) (defBody s__law_new_completion) (defScope s__law_new_completion) [] [] (He.ga K "_law_new_completion") fd
  d__law_same : ∃ fd, FunD K "_law_same" "_law_same" (defArgs s__law_same) (defBody s__law_same) (defScope s__law_same) [] [] (He.ga K "_law_same") fd
  d__law_bent : ∃ fd, FunD K "_law_bent" "_law_bent" (defArgs s__law_bent) (defBody s__law_bent) (defScope s__law_bent) [] [] (He.ga K "_law_bent") fd
  d_law : ∃ fd, FunD K "law" "law" (defArgs s_law) (defBody s_law) (defScope s_law) [] [] (He.ga K "law") fd
def fa : List He.Fa := [.free "ValueError",
  .glo "RingError",
  .free "type",
  .free "int",
  .glo "is_integer",
  .int "FIRST_BUFFER" 2,
  .int "SLOTS" 4,
  .glo "is_number",
  .int "TAGS" 4,
  .glo "is_tag",
  .free "str",
  .glo "KINDS",
  .int "BLOCKS" 8,
  .glo "phase_of",
  .glo "is_order",
  .glo "is_entry_number",
  .glo "NotValid",
  .str "DONE" "done",
  .free "tuple",
  .free "len",
  .glo "has_phase",
  .int "PHASES" 2,
  .glo "is_completion",
  .free "range",
  .free "abs",
  .free "isinstance",
  .free "bool",
  .glo "descriptor",
  .glo "completion",
  .glo "_law_integer",
  .glo "_law_fit",
  .glo "_law_phase",
  .free "list",
  .int "SUBMISSIONS" 0,
  .int "COMPLETIONS" 1,
  .glo "buffer_page",
  .glo "_law_tape",
  .free "min",
  .glo "_law_at",
  .glo "slot_of",
  .glo "_law_told",
  .glo "_law_bent",
  .glo "_law_same",
  .glo "is_new_descriptor",
  .glo "_law_new_descriptor",
  .glo "is_new_completion",
  .glo "_law_new_completion",
  .exm "NotValid" "RingError" true,
  .glo "law"]
def exs : List Ex := [.vei,
  .clf "RingError" "__init__",
  .oex "NotValid",
  .ity "NotValid" "__init__",
  .exi "NotValid",
  .kit "NotValid" "NotValid" true,
  .tup "KINDS" [.str "read", .str "write"]]
def fn : List He.DefD := [d_RingError___init__,
  d_NotValid___init__,
  d_is_integer,
  d_is_number,
  d_buffer_page,
  d_slot_of,
  d_phase_of,
  d_is_tag,
  d_is_order,
  d_is_entry_number,
  d_has_phase,
  d_descriptor,
  d_completion,
  d_is_new_descriptor,
  d_is_completion,
  d_is_new_completion,
  d__law_tape,
  d__law_at,
  d__law_integer,
  d__law_phase,
  d__law_told,
  d__law_fit,
  d__law_new_descriptor,
  d__law_new_completion,
  d__law_same,
  d__law_bent,
  d_law]
def ts : List He.Tab := []
theorem top_of {w : World} {h : Heap} {K : PySem.W.Frag} {mg : Str → Option Value} (X : K.In h) (G : h.Ns mainGlobals mg) (c : SaysR fa fn ts exs w K) : Top K mg where
  b_ValueError := He.free_ok X G (c.t.d.fact 0 (f := .free "ValueError") rfl)
  vei := vei_ok (ex_at c 0 (f := .vei) rfl)
  cf_RingError___init__ := clf_ok (ex_at c 1 (f := .clf "RingError" "__init__") rfl)
  g_RingError := He.glo_ok X G (c.t.d.fact 1 (f := .glo "RingError") rfl)
  b_type := He.free_ok X G (c.t.d.fact 2 (f := .free "type") rfl)
  b_int := He.free_ok X G (c.t.d.fact 3 (f := .free "int") rfl)
  g_is_integer := He.glo_ok X G (c.t.d.fact 4 (f := .glo "is_integer") rfl)
  c_FIRST_BUFFER := int_at X G (c.t.d.fact 5 (f := .int "FIRST_BUFFER" 2) rfl)
  c_SLOTS := int_at X G (c.t.d.fact 6 (f := .int "SLOTS" 4) rfl)
  g_is_number := He.glo_ok X G (c.t.d.fact 7 (f := .glo "is_number") rfl)
  c_TAGS := int_at X G (c.t.d.fact 8 (f := .int "TAGS" 4) rfl)
  g_is_tag := He.glo_ok X G (c.t.d.fact 9 (f := .glo "is_tag") rfl)
  b_str := He.free_ok X G (c.t.d.fact 10 (f := .free "str") rfl)
  c_KINDS := ⟨_, He.glo_ok X G (c.t.d.fact 11 (f := .glo "KINDS") rfl), rfl⟩
  c_BLOCKS := int_at X G (c.t.d.fact 12 (f := .int "BLOCKS" 8) rfl)
  g_phase_of := He.glo_ok X G (c.t.d.fact 13 (f := .glo "phase_of") rfl)
  g_is_order := He.glo_ok X G (c.t.d.fact 14 (f := .glo "is_order") rfl)
  g_is_entry_number := He.glo_ok X G (c.t.d.fact 15 (f := .glo "is_entry_number") rfl)
  ex_NotValid := oex_ok (ex_at c 2 (f := .oex "NotValid") rfl)
  ini_NotValid := (ity_ok (ex_at c 3 (f := .ity "NotValid" "__init__") rfl)).1
  ity_NotValid := (ity_ok (ex_at c 3 (f := .ity "NotValid" "__init__") rfl)).2
  g_NotValid := He.glo_ok X G (c.t.d.fact 16 (f := .glo "NotValid") rfl)
  c_DONE := str_at X G (c.t.d.fact 17 (f := .str "DONE" "done") rfl)
  b_tuple := He.free_ok X G (c.t.d.fact 18 (f := .free "tuple") rfl)
  b_len := He.free_ok X G (c.t.d.fact 19 (f := .free "len") rfl)
  g_has_phase := He.glo_ok X G (c.t.d.fact 20 (f := .glo "has_phase") rfl)
  c_PHASES := int_at X G (c.t.d.fact 21 (f := .int "PHASES" 2) rfl)
  g_is_completion := He.glo_ok X G (c.t.d.fact 22 (f := .glo "is_completion") rfl)
  b_range := He.free_ok X G (c.t.d.fact 23 (f := .free "range") rfl)
  b_abs := He.free_ok X G (c.t.d.fact 24 (f := .free "abs") rfl)
  b_isinstance := He.free_ok X G (c.t.d.fact 25 (f := .free "isinstance") rfl)
  b_bool := He.free_ok X G (c.t.d.fact 26 (f := .free "bool") rfl)
  g_descriptor := He.glo_ok X G (c.t.d.fact 27 (f := .glo "descriptor") rfl)
  g_completion := He.glo_ok X G (c.t.d.fact 28 (f := .glo "completion") rfl)
  xc_NotValid := exi_ok (ex_at c 4 (f := .exi "NotValid") rfl)
  g__law_integer := He.glo_ok X G (c.t.d.fact 29 (f := .glo "_law_integer") rfl)
  g__law_fit := He.glo_ok X G (c.t.d.fact 30 (f := .glo "_law_fit") rfl)
  g__law_phase := He.glo_ok X G (c.t.d.fact 31 (f := .glo "_law_phase") rfl)
  b_list := He.free_ok X G (c.t.d.fact 32 (f := .free "list") rfl)
  c_SUBMISSIONS := int_at X G (c.t.d.fact 33 (f := .int "SUBMISSIONS" 0) rfl)
  c_COMPLETIONS := int_at X G (c.t.d.fact 34 (f := .int "COMPLETIONS" 1) rfl)
  g_buffer_page := He.glo_ok X G (c.t.d.fact 35 (f := .glo "buffer_page") rfl)
  g__law_tape := He.glo_ok X G (c.t.d.fact 36 (f := .glo "_law_tape") rfl)
  b_min := He.free_ok X G (c.t.d.fact 37 (f := .free "min") rfl)
  g__law_at := He.glo_ok X G (c.t.d.fact 38 (f := .glo "_law_at") rfl)
  g_slot_of := He.glo_ok X G (c.t.d.fact 39 (f := .glo "slot_of") rfl)
  g__law_told := He.glo_ok X G (c.t.d.fact 40 (f := .glo "_law_told") rfl)
  g__law_bent := He.glo_ok X G (c.t.d.fact 41 (f := .glo "_law_bent") rfl)
  g__law_same := He.glo_ok X G (c.t.d.fact 42 (f := .glo "_law_same") rfl)
  g_is_new_descriptor := He.glo_ok X G (c.t.d.fact 43 (f := .glo "is_new_descriptor") rfl)
  g__law_new_descriptor := He.glo_ok X G (c.t.d.fact 44 (f := .glo "_law_new_descriptor") rfl)
  g_is_new_completion := He.glo_ok X G (c.t.d.fact 45 (f := .glo "is_new_completion") rfl)
  g__law_new_completion := He.glo_ok X G (c.t.d.fact 46 (f := .glo "_law_new_completion") rfl)
  exm_NotValid_RingError_T := He.exm_ok (c.t.d.fact 47 (f := .exm "NotValid" "RingError" true) rfl)
  kit_NotValid_NotValid_T := kit_ok (ex_at c 5 (f := .kit "NotValid" "NotValid" true) rfl)
  g_law := He.glo_ok X G (c.t.d.fact 48 (f := .glo "law") rfl)
  t_KINDS := tup_ok (ex_at c 6 (f := .tup "KINDS" [.str "read", .str "write"]) rfl)
  d_RingError___init__ := c.t.d.def_ 0 (d := d_RingError___init__) rfl
  d_NotValid___init__ := c.t.d.def_ 1 (d := d_NotValid___init__) rfl
  d_is_integer := c.t.d.def_ 2 (d := d_is_integer) rfl
  d_is_number := c.t.d.def_ 3 (d := d_is_number) rfl
  d_buffer_page := c.t.d.def_ 4 (d := d_buffer_page) rfl
  d_slot_of := c.t.d.def_ 5 (d := d_slot_of) rfl
  d_phase_of := c.t.d.def_ 6 (d := d_phase_of) rfl
  d_is_tag := c.t.d.def_ 7 (d := d_is_tag) rfl
  d_is_order := c.t.d.def_ 8 (d := d_is_order) rfl
  d_is_entry_number := c.t.d.def_ 9 (d := d_is_entry_number) rfl
  d_has_phase := c.t.d.def_ 10 (d := d_has_phase) rfl
  d_descriptor := c.t.d.def_ 11 (d := d_descriptor) rfl
  d_completion := c.t.d.def_ 12 (d := d_completion) rfl
  d_is_new_descriptor := c.t.d.def_ 13 (d := d_is_new_descriptor) rfl
  d_is_completion := c.t.d.def_ 14 (d := d_is_completion) rfl
  d_is_new_completion := c.t.d.def_ 15 (d := d_is_new_completion) rfl
  d__law_tape := c.t.d.def_ 16 (d := d__law_tape) rfl
  d__law_at := c.t.d.def_ 17 (d := d__law_at) rfl
  d__law_integer := c.t.d.def_ 18 (d := d__law_integer) rfl
  d__law_phase := c.t.d.def_ 19 (d := d__law_phase) rfl
  d__law_told := c.t.d.def_ 20 (d := d__law_told) rfl
  d__law_fit := c.t.d.def_ 21 (d := d__law_fit) rfl
  d__law_new_descriptor := c.t.d.def_ 22 (d := d__law_new_descriptor) rfl
  d__law_new_completion := c.t.d.def_ 23 (d := d__law_new_completion) rfl
  d__law_same := c.t.d.def_ 24 (d := d__law_same) rfl
  d__law_bent := c.t.d.def_ 25 (d := d__law_bent) rfl
  d_law := c.t.d.def_ 26 (d := d_law) rfl
def loose : List Str := (["RingError", "NotValid", "is_integer", "is_number", "BLOCKS", "SLOTS", "TAGS", "SUBMISSIONS", "COMPLETIONS", "FIRST_BUFFER", "KINDS", "DONE", "PHASES", "buffer_page", "slot_of", "phase_of", "is_tag", "is_order", "is_entry_number", "has_phase", "descriptor", "completion", "is_new_descriptor", "is_completion", "is_new_completion", "_law_tape", "_law_at", "_law_integer", "_law_phase", "_law_told"] : List Str) ++ (["_law_fit", "_law_new_descriptor", "_law_new_completion", "_law_same", "_law_bent"] : List Str)
abbrev lawAt : Nat := 39
end Rb
namespace Rb
open PySem PySem.Spec PyProof.Rows L2
section
variable {P : Program} {w : World} {K : PySem.W.Frag} {mg : Str → Option Value} {base : Heap}
def spVeI (K : PySem.W.Frag) : Sp := fun vs H Q _ => ∃ (a C : Addr), vs = [.ref a] ∧ OexC K C ∧ H a = some (exo a C none) ∧ Q .non H
theorem ok_RingError_init (T : Top K mg) : FnC P w K mg base CX0 1 (He.ma K (He.ga K "RingError") "__init__") (spVeI K) := by
  refine fnc0 T.d_RingError___init__ sc_RingError___init__ (fun _ _ _ _ _ _ us hl => match us, hl with | [_], _ => rfl) (fun vs H Q E h => ?_) (fun cdv A outer s H vs Q E hr h => ?_)
  · obtain ⟨a, C, rfl, _⟩ := h
    rfl
  · obtain ⟨a, C, rfl, o, e, k⟩ := h
    refine ⟨_, (pss_one (ps_expr (pe_veinit (by rfl) T.b_ValueError T.vei (pa_cons (pv 0) pa_nil)))), ?_⟩
    exact ⟨_, rfl, a, C, [], rfl, Nat.zero_le _, o, e, k⟩
theorem ok_NotValid_init (T : Top K mg) : FnC P w K mg base CX0 2 (He.ma K (He.ga K "NotValid") "__init__") (spVeI K) := by
  have G_RingError___init__ := ok_RingError_init (P := P) (w := w) (base := base) T
  refine fnc0 T.d_NotValid___init__ sc_NotValid___init__ (fun _ _ _ _ _ _ us hl => match us, hl with | [_], _ => rfl) (fun vs H Q E h => ?_) (fun cdv A outer s H vs Q E hr h => ?_)
  · obtain ⟨a, C, rfl, _⟩ := h
    rfl
  · obtain ⟨a, C, rfl, o, e, k⟩ := h
    refine ⟨_, (pss_one (ps_expr (pe_cls T.cf_RingError___init__ G_RingError___init__ hr (by decide) (by rfl) T.g_RingError pass0 (pa_cons (pv 0) pa_nil)))), ?_⟩
    exact ⟨_, rfl, a, C, rfl, o, e, k⟩
def spIsInt (K : PySem.W.Frag) : Sp := fun vs H Q _ => ∃ (v : V) (N : String), vs = [v] ∧ TyB K H v N ∧ Q (.bl (decide (N = "int"))) H
theorem ok_is_integer (T : Top K mg) : FnC P w K mg base CX0 1 (He.ga K "is_integer") (spIsInt K) := by
  refine fnc0 T.d_is_integer sc_is_integer (fun _ _ _ _ _ _ us hl => match us, hl with | [_], _ => rfl) (fun vs H Q E h => ?_) (fun cdv A outer s H vs Q E hr h => ?_)
  · obtain ⟨v, N, rfl, _⟩ := h
    rfl
  · obtain ⟨v, N, rfl, hN, k⟩ := h
    refine ⟨_, (pss_one (ps_ret (pe_cmpR op_isTyB (pe_callTy call_type1 (by rfl) T.b_type (by decide +kernel) (pa_cons (pv 0) pa_nil)) (pe_bltn (v := .ty "int") (by rfl) T.b_int (by decide +kernel) rfl) (nomark _)))), ?_⟩
    exact ⟨_, rfl, _, N, rfl, hN, _, _, rfl, rfl, k⟩
def isNum : V → Int → Bool
  | .int i, l => decide (0 ≤ i) && decide (i < l)
  | _, _ => false
def spIsNum (K : PySem.W.Frag) : Sp := fun vs H Q _ => ∃ (v : V) (N : String) (l : Int), vs = [v, .int l] ∧ TyB K H v N ∧ Q (.bl (isNum v l)) H
theorem ok_is_number (T : Top K mg) : FnC P w K mg base CX0 2 (He.ga K "is_number") (spIsNum K) := by
  have G_is_integer := ok_is_integer (P := P) (w := w) (base := base) T
  refine fnc0 T.d_is_number sc_is_number (fun _ _ _ _ _ _ us hl => match us, hl with | [_, _], _ => rfl) (fun vs H Q E h => ?_) (fun cdv A outer s H vs Q E hr h => ?_)
  · obtain ⟨v, N, l, rfl, _⟩ := h
    rfl
  · obtain ⟨v, N, l, rfl, hN, k⟩ := h
    refine ⟨_, (pss_one (ps_ret (pe_and (pe_f G_is_integer hr (by decide) (by rfl) T.g_is_integer pass0 (pa_cons (pv 0) pa_nil)) (pe_one (pe_chain op_le op_lt pe_int (pv 0) (pv 1)))))), ?_⟩
    refine ⟨_, rfl, _, N, rfl, hN, _, rfl, ?_⟩
    cases hN with
    | int i =>
      refine ⟨_, rfl, _, _, rfl, rfl, _, rfl, ?_⟩
      show if decide ((0 : Int) ≤ i) = true then _ else _
      by_cases c : (0 : Int) ≤ i
      · rw [decide_eq_true c]
        refine ⟨_, rfl, _, _, rfl, rfl, ?_⟩
        have e : isNum (.int i) l = decide (i < l) := by
          show (decide (0 ≤ i) && decide (i < l)) = _
          rw [decide_eq_true c, Bool.true_and]
        rw [e] at k
        exact k
      · rw [decide_eq_false c]
        have e : isNum (.int i) l = false := by
          show (decide (0 ≤ i) && decide (i < l)) = _
          rw [decide_eq_false c, Bool.false_and]
        rw [e] at k
        exact k
    | _ => exact k
end
end Rb
namespace Rb
open PySem PySem.Spec PyProof.Rows L2
/-! ### the rings -/
def phI (n : Int) : Int := 1 - n / 4 % 2
def isKind : V → Bool
  | .str s => inV (.str s) [.str "read", .str "write"]
  | _ => false
def isNat : V → Bool
  | .int i => decide (0 ≤ i)
  | _ => false
def isPh (n : Int) : V → Bool
  | .int i => decide (V.int i = V.int (phI n))
  | _ => false
def isSame (n : Int) : V → Bool
  | .int i => decide (V.int i = V.int n)
  | _ => false
def isDone : V → Bool
  | .str s => decide (V.str s = V.str "done")
  | _ => false
def fitD (a b c e : V) : Bool := (isNum a 4 && (isKind b && isNum c 8)) && isNat e
def newD : List V → Int → Bool
  | [a, b, c, d, e], n => fitD a b c e && (isPh n d && isSame n e)
  | _, _ => false
def newC : List V → Int → Bool
  | [a, b, d], n => isNum a 4 && (isDone b && isPh n d)
  | _, _ => false
theorem isNum_int {v : V} {l : Int} (h : isNum v l = true) : ∃ i, v = .int i ∧ 0 ≤ i ∧ i < l := by
  cases v with
  | int i =>
    obtain ⟨h1, h2⟩ := Bool.and_eq_true_iff.mp (show (decide (0 ≤ i) && decide (i < l)) = true from h)
    exact ⟨i, rfl, of_decide_eq_true h1, of_decide_eq_true h2⟩
  | _ => cases h
theorem isKind_str {v : V} (h : isKind v = true) : ∃ s, v = .str s := by
  cases v with
  | str s => exact ⟨s, rfl⟩
  | _ => cases h
theorem isNat_int {v : V} (h : isNat v = true) : ∃ i, v = .int i ∧ 0 ≤ i := by
  cases v with
  | int i => exact ⟨i, rfl, of_decide_eq_true h⟩
  | _ => cases h
section
variable {P : Program} {w : World} {K : PySem.W.Frag} {mg : Str → Option Value} {base : Heap}
def spPage : Sp := fun vs H Q _ => ∃ i : Int, vs = [.int i] ∧ Q (.int (i + 2)) H
theorem ok_buffer_page (T : Top K mg) : FnC P w K mg base CX0 1 (He.ga K "buffer_page") spPage := by
  refine fnc0 T.d_buffer_page sc_buffer_page (fun _ _ _ _ _ _ us hl => match us, hl with | [_], _ => rfl) (fun vs H Q E h => ?_) (fun cdv A outer s H vs Q E hr h => ?_)
  · obtain ⟨i, rfl, _⟩ := h
    rfl
  · obtain ⟨i, rfl, k⟩ := h
    refine ⟨_, (pss_one (ps_ret (pe_op op_add (pv 0) (pe_gc (by rfl) T.c_FIRST_BUFFER)))), ?_⟩
    exact ⟨_, rfl, _, _, rfl, rfl, k⟩
def spSlot : Sp := fun vs H Q _ => ∃ i : Int, vs = [.int i] ∧ Q (.int (i % 4)) H
theorem ok_slot_of (T : Top K mg) : FnC P w K mg base CX0 1 (He.ga K "slot_of") spSlot := by
  refine fnc0 T.d_slot_of sc_slot_of (fun _ _ _ _ _ _ us hl => match us, hl with | [_], _ => rfl) (fun vs H Q E h => ?_) (fun cdv A outer s H vs Q E hr h => ?_)
  · obtain ⟨i, rfl, _⟩ := h
    rfl
  · obtain ⟨i, rfl, k⟩ := h
    refine ⟨_, (pss_one (ps_ret (pe_op op_mod (pv 0) (pe_gc (by rfl) T.c_SLOTS)))), ?_⟩
    exact ⟨_, rfl, _, _, rfl, rfl, (by show (0 : Int) < 4; decide), k⟩
def spPhase : Sp := fun vs H Q _ => ∃ i : Int, vs = [.int i] ∧ Q (.int (phI i)) H
theorem ok_phase_of (T : Top K mg) : FnC P w K mg base CX0 1 (He.ga K "phase_of") spPhase := by
  refine fnc0 T.d_phase_of sc_phase_of (fun _ _ _ _ _ _ us hl => match us, hl with | [_], _ => rfl) (fun vs H Q E h => ?_) (fun cdv A outer s H vs Q E hr h => ?_)
  · obtain ⟨i, rfl, _⟩ := h
    rfl
  · obtain ⟨i, rfl, k⟩ := h
    refine ⟨_, (pss_one (ps_ret (pe_op op_sub pe_int (pe_op op_mod (pe_op op_fdiv (pv 0) (pe_gc (by rfl) T.c_SLOTS)) pe_int)))), ?_⟩
    exact ⟨_, rfl, _, _, rfl, rfl, ⟨by decide, by decide⟩, _, _, rfl, rfl, (by show (0 : Int) < 2; decide), _, _, rfl, rfl, k⟩
def spIsTag : Sp := fun vs H Q _ => ∃ v, vs = [v] ∧ El H v ∧ Q (.bl (isNum v 4)) H
theorem ok_is_tag (T : Top K mg) : FnC P w K mg base CX0 3 (He.ga K "is_tag") spIsTag := by
  have G_is_number := ok_is_number (P := P) (w := w) (base := base) T
  refine fnc0 T.d_is_tag sc_is_tag (fun _ _ _ _ _ _ us hl => match us, hl with | [_], _ => rfl) (fun vs H Q E h => ?_) (fun cdv A outer s H vs Q E hr h => ?_)
  · obtain ⟨v, rfl, _⟩ := h
    rfl
  · obtain ⟨v, rfl, e, k⟩ := h
    refine ⟨_, (pss_one (ps_ret (pe_f G_is_number hr (by decide) (by rfl) T.g_is_number pass0 (pa_cons (pv 0) (pa_cons (pe_gc (by rfl) T.c_TAGS) pa_nil))))), ?_⟩
    exact ⟨_, rfl, v, _, 4, rfl, e.ty, k⟩
def spIsOrder : Sp := fun vs H Q _ => ∃ a b c, vs = [a, b, c] ∧ El H a ∧ El H b ∧ El H c ∧ Q (.bl (isNum a 4 && (isKind b && isNum c 8))) H
theorem ok_is_order (T : Top K mg) : FnC P w K mg base CX0 4 (He.ga K "is_order") spIsOrder := by
  have G_is_number := ok_is_number (P := P) (w := w) (base := base) T
  have G_is_tag := ok_is_tag (P := P) (w := w) (base := base) T
  refine fnc0 T.d_is_order sc_is_order (fun _ _ _ _ _ _ us hl => match us, hl with | [_, _, _], _ => rfl) (fun vs H Q E h => ?_) (fun cdv A outer s H vs Q E hr h => ?_)
  · obtain ⟨a, b, c, rfl, _⟩ := h
    rfl
  · obtain ⟨a, b, c, rfl, ea, eb, ec, k⟩ := h
    refine ⟨_, (pss_one (ps_ret (pe_and (pe_f G_is_tag hr (by decide) (by rfl) T.g_is_tag pass0 (pa_cons (pv 0) pa_nil)) (pe_and (pe_cmpR op_isTyB (pe_callTy call_type1 (by rfl) T.b_type (by decide +kernel) (pa_cons (pv 1) pa_nil)) (pe_bltn (v := .ty "str") (by rfl) T.b_str (by decide +kernel) rfl) (nomark _)) (pe_and (pe_cmpR op_in_seq (pv 1) (pe_gc (by rfl) T.c_KINDS) rfl) (pe_one (pe_f G_is_number hr (by decide) (by rfl) T.g_is_number pass0 (pa_cons (pv 2) (pa_cons (pe_gc (by rfl) T.c_BLOCKS) pa_nil))))))))), ?_⟩
    refine ⟨_, rfl, a, rfl, ea, _, rfl, ?_⟩
    cases h1 : isNum a 4
    · rw [h1] at k
      exact k
    rw [h1, Bool.true_and] at k
    refine ⟨_, rfl, _, _, rfl, eb.ty, _, _, rfl, rfl, _, rfl, ?_⟩
    cases b with
    | str s =>
      refine ⟨_, rfl, _, _, rfl, .inr (T.t_KINDS _), rfl, (by rfl), _, rfl, ?_⟩
      show if inV (.str s) [.str "read", .str "write"] = true then _ else _
      have e2 : isKind (.str s) = inV (.str s) [.str "read", .str "write"] := rfl
      rw [e2] at k
      cases h2 : inV (.str s) [.str "read", .str "write"]
      · rw [h2] at k
        exact k
      rw [h2, Bool.true_and] at k
      exact ⟨_, rfl, _, _, 8, rfl, ec.ty, k⟩
    | _ => first | exact k | exact eb.elim
def spIsEnt : Sp := fun vs H Q _ => ∃ v, vs = [v] ∧ El H v ∧ Q (.bl (isNat v)) H
theorem ok_is_entry_number (T : Top K mg) : FnC P w K mg base CX0 2 (He.ga K "is_entry_number") spIsEnt := by
  have G_is_integer := ok_is_integer (P := P) (w := w) (base := base) T
  refine fnc0 T.d_is_entry_number sc_is_entry_number (fun _ _ _ _ _ _ us hl => match us, hl with | [_], _ => rfl) (fun vs H Q E h => ?_) (fun cdv A outer s H vs Q E hr h => ?_)
  · obtain ⟨v, rfl, _⟩ := h
    rfl
  · obtain ⟨v, rfl, e, k⟩ := h
    refine ⟨_, (pss_one (ps_ret (pe_and (pe_f G_is_integer hr (by decide) (by rfl) T.g_is_integer pass0 (pa_cons (pv 0) pa_nil)) (pe_one (pe_cmpR op_ge (pv 0) pe_int (nomark _)))))), ?_⟩
    refine ⟨_, rfl, v, _, rfl, e.ty, _, rfl, ?_⟩
    cases v with
    | int i => exact ⟨_, rfl, _, _, rfl, rfl, k⟩
    | _ => first | exact k | exact e.elim
def spHasPh : Sp := fun vs H Q _ => ∃ v n, vs = [v, .int n] ∧ El H v ∧ Q (.bl (isPh n v)) H
theorem ok_has_phase (T : Top K mg) : FnC P w K mg base CX0 2 (He.ga K "has_phase") spHasPh := by
  have G_is_integer := ok_is_integer (P := P) (w := w) (base := base) T
  have G_phase_of := ok_phase_of (P := P) (w := w) (base := base) T
  refine fnc0 T.d_has_phase sc_has_phase (fun _ _ _ _ _ _ us hl => match us, hl with | [_, _], _ => rfl) (fun vs H Q E h => ?_) (fun cdv A outer s H vs Q E hr h => ?_)
  · obtain ⟨v, n, rfl, _⟩ := h
    rfl
  · obtain ⟨v, n, rfl, e, k⟩ := h
    refine ⟨_, (pss_one (ps_ret (pe_and (pe_f G_is_integer hr (by decide) (by rfl) T.g_is_integer pass0 (pa_cons (pv 0) pa_nil)) (pe_one (pe_cmpR op_eq (pv 0) (pe_f G_phase_of hr (by decide) (by rfl) T.g_phase_of pass0 (pa_cons (pv 1) pa_nil)) (nomark _)))))), ?_⟩
    refine ⟨_, rfl, v, _, rfl, e.ty, _, rfl, ?_⟩
    cases v with
    | int i => exact ⟨_, rfl, _, rfl, n, rfl, rfl, k⟩
    | _ => first | exact k | exact e.elim
end
end Rb
namespace Rb
open PySem PySem.Spec PyProof.Rows L2
abbrev NV (K : PySem.W.Frag) : Value := .ref (He.ga K "NotValid")
theorem atI_n {α : Type} {xs : List α} {j : Nat} {x : α} (h : xs[j]? = some x) : atI xs (j : Int) = some x := by
  unfold atI ixN
  have hj : j < xs.length := (List.getElem?_eq_some_iff.mp h).1
  rw [if_pos (by omega), if_pos (by omega)]
  simpa using h
def spDesc (K : PySem.W.Frag) : Sp := fun vs H Q E => ∃ a b c e, vs = [a, b, c, e] ∧ El H a ∧ El H b ∧ El H c ∧ El H e ∧
  (∀ n, e = .int n → fitD a b c e = true → ∀ p, H p = none → Q (.ref p) (upd H p (.tup [a, b, c, .int (phI n), e]))) ∧ (fitD a b c e = false → E (NV K) none H)
def spComp (K : PySem.W.Frag) : Sp := fun vs H Q E => ∃ a e, vs = [a, e] ∧ El H a ∧ El H e ∧
  (∀ n, e = .int n → (isNum a 4 && isNat e) = true → ∀ p, H p = none → Q (.ref p) (upd H p (.tup [a, .str "done", .int (phI n)]))) ∧ ((isNum a 4 && isNat e) = false → E (NV K) none H)
section
variable {P : Program} {w : World} {K : PySem.W.Frag} {mg : Str → Option Value} {base : Heap}
theorem ok_descriptor (T : Top K mg) : FnC P w K mg base (L2.CX P w) 5 (He.ga K "descriptor") (spDesc K) := by
  have G_is_order := ok_is_order (P := P) (w := w) (base := base) T
  have G_is_entry_number := ok_is_entry_number (P := P) (w := w) (base := base) T
  have G_phase_of := ok_phase_of (P := P) (w := w) (base := base) T
  have G_NotValid___init__ := ok_NotValid_init (P := P) (w := w) (base := base) T
  refine fnc T.d_descriptor sc_descriptor (fun _ _ _ _ _ _ us hl => match us, hl with | [_, _, _, _], _ => rfl) (fun vs H Q E h => ?_) (fun cdv A outer s H vs Q E hr h => ?_)
  · obtain ⟨a, b, c, e, rfl, _⟩ := h
    rfl
  · obtain ⟨a, b, c, e, rfl, ea, eb, ec, ee, k, ke⟩ := h
    refine ⟨_, (pss_cons (ps_if (PW.pt (pw_or (pt_not (pt_val (pe_f G_is_order hr (by decide) (by rfl) T.g_is_order pass0 (pa_cons (pv 0) (pa_cons (pv 1) (pa_cons (pv 2) pa_nil)))))) (pw_or1 (pt_not (pt_val (pe_f G_is_entry_number hr (by decide) (by rfl) T.g_is_entry_number pass0 (pa_cons (pv 3) pa_nil))))))) (pss_one (ps_raise rfl (takes_of rfl rfl rfl rfl) (pmk_bare T.ex_NotValid T.ini_NotValid T.ity_NotValid G_NotValid___init__ hr (by decide) pass0 (by rfl) T.g_NotValid))) pss_nil)
    (pss_one (ps_ret (pe_tup (pa_cons (pv 0) (pa_cons (pv 1) (pa_cons (pv 2) (pa_cons (pe_f G_phase_of hr (by decide) (by rfl) T.g_phase_of pass0 (pa_cons (pv 3) pa_nil)) (pa_cons (pv 3) pa_nil))))))))), ?_⟩
    refine ⟨_, rfl, _, rfl, _, rfl, a, b, c, rfl, ea, eb, ec, _, rfl, ?_⟩
    cases h1 : (isNum a 4 && (isKind b && isNum c 8)) with
    | false =>
      refine ⟨fun x hx => ⟨x, _, rfl, T.ex_NotValid, upd_same, rfl, rfl⟩, ke ?_⟩
      show ((isNum a 4 && (isKind b && isNum c 8)) && isNat e) = false
      rw [h1]
      rfl
    | true =>
      refine ⟨_, rfl, e, rfl, ee, _, rfl, ?_⟩
      cases h2 : isNat e with
      | false =>
        refine ⟨fun x hx => ⟨x, _, rfl, T.ex_NotValid, upd_same, rfl, rfl⟩, ke ?_⟩
        show ((isNum a 4 && (isKind b && isNum c 8)) && isNat e) = false
        rw [h1, h2]
        rfl
      | true =>
        obtain ⟨n, rfl, _⟩ := isNat_int h2
        refine ⟨_, rfl, _, rfl, _, rfl, _, rfl, n, rfl, _, rfl, (by show 5 ≤ sizeLine; decide), ?_⟩
        refine k n rfl ?_
        show ((isNum a 4 && (isKind b && isNum c 8)) && isNat (.int n)) = true
        rw [h1, h2]
        rfl
theorem ok_completion (T : Top K mg) : FnC P w K mg base (L2.CX P w) 4 (He.ga K "completion") (spComp K) := by
  have G_is_tag := ok_is_tag (P := P) (w := w) (base := base) T
  have G_is_entry_number := ok_is_entry_number (P := P) (w := w) (base := base) T
  have G_phase_of := ok_phase_of (P := P) (w := w) (base := base) T
  have G_NotValid___init__ := ok_NotValid_init (P := P) (w := w) (base := base) T
  refine fnc T.d_completion sc_completion (fun _ _ _ _ _ _ us hl => match us, hl with | [_, _], _ => rfl) (fun vs H Q E h => ?_) (fun cdv A outer s H vs Q E hr h => ?_)
  · obtain ⟨a, e, rfl, _⟩ := h
    rfl
  · obtain ⟨a, e, rfl, ea, ee, k, ke⟩ := h
    refine ⟨_, (pss_cons (ps_if (PW.pt (pw_or (pt_not (pt_val (pe_f G_is_tag hr (by decide) (by rfl) T.g_is_tag pass0 (pa_cons (pv 0) pa_nil)))) (pw_or1 (pt_not (pt_val (pe_f G_is_entry_number hr (by decide) (by rfl) T.g_is_entry_number pass0 (pa_cons (pv 1) pa_nil))))))) (pss_one (ps_raise rfl (takes_of rfl rfl rfl rfl) (pmk_bare T.ex_NotValid T.ini_NotValid T.ity_NotValid G_NotValid___init__ hr (by decide) pass0 (by rfl) T.g_NotValid))) pss_nil)
    (pss_one (ps_ret (pe_tup (pa_cons (pv 0) (pa_cons (pe_gc (by rfl) T.c_DONE) (pa_cons (pe_f G_phase_of hr (by decide) (by rfl) T.g_phase_of pass0 (pa_cons (pv 1) pa_nil)) pa_nil))))))), ?_⟩
    refine ⟨_, rfl, a, rfl, ea, _, rfl, ?_⟩
    cases h1 : isNum a 4 with
    | false =>
      refine ⟨fun x hx => ⟨x, _, rfl, T.ex_NotValid, upd_same, rfl, rfl⟩, ke ?_⟩
      rw [h1]
      rfl
    | true =>
      refine ⟨_, rfl, e, rfl, ee, _, rfl, ?_⟩
      cases h2 : isNat e with
      | false =>
        refine ⟨fun x hx => ⟨x, _, rfl, T.ex_NotValid, upd_same, rfl, rfl⟩, ke ?_⟩
        rw [h1, h2]
        rfl
      | true =>
        obtain ⟨n, rfl, _⟩ := isNat_int h2
        refine ⟨_, rfl, _, rfl, n, rfl, (by show 3 ≤ sizeLine; decide), ?_⟩
        refine k n rfl ?_
        rw [h1, h2]
        rfl
def spNew (f : List V → Int → Bool) : Sp := fun vs H Q _ => ∃ v t xs n, vs = [v, .int n] ∧ Sv H v t xs ∧ Q (.bl (t && f xs n)) H
theorem newD_len {xs : List V} {n : Int} (h : xs.length ≠ 5) : newD xs n = false := by
  match xs, h with
  | [], _ => rfl
  | [_], _ => rfl
  | [_, _], _ => rfl
  | [_, _, _], _ => rfl
  | [_, _, _, _], _ => rfl
  | [_, _, _, _, _], h => exact absurd rfl h
  | _ :: _ :: _ :: _ :: _ :: _ :: _, _ => rfl
theorem newC_len {xs : List V} {n : Int} (h : xs.length ≠ 3) : newC xs n = false := by
  match xs, h with
  | [], _ => rfl
  | [_], _ => rfl
  | [_, _], _ => rfl
  | [_, _, _], h => exact absurd rfl h
  | _ :: _ :: _ :: _ :: _, _ => rfl
theorem len5 {xs : List V} (h : xs.length = 5) : ∃ a b c d e, xs = [a, b, c, d, e] := by
  match xs, h with
  | [a, b, c, d, e], _ => exact ⟨a, b, c, d, e, rfl⟩
theorem len3 {xs : List V} (h : xs.length = 3) : ∃ a b c, xs = [a, b, c] := by
  match xs, h with
  | [a, b, c], _ => exact ⟨a, b, c, rfl⟩
theorem neI {n m : Nat} : (!decide (V.int (n : Int) = V.int (m : Int))) = !decide (n = m) := by
  congr 1
  by_cases c : n = m
  · subst c
    rw [decide_eq_true rfl, decide_eq_true rfl]
  · rw [decide_eq_false c, decide_eq_false]
    intro z
    injection z with z
    omega
def isC3 : List V → Bool
  | [a, b, d] => isNum a 4 && (isDone b && isNum d 2)
  | _ => false
theorem isC3_len {xs : List V} (h : xs.length ≠ 3) : isC3 xs = false := by
  match xs, h with
  | [], _ => rfl
  | [_], _ => rfl
  | [_, _], _ => rfl
  | [_, _, _], h => exact absurd rfl h
  | _ :: _ :: _ :: _ :: _, _ => rfl
theorem isPh_num {n : Int} {d : V} (h : isPh n d = true) : isNum d 2 = true := by
  cases d with
  | int i =>
    have h := of_decide_eq_true (show decide (V.int i = V.int (phI n)) = true from h)
    injection h with h
    subst h
    show (decide (0 ≤ phI n) && decide (phI n < 2)) = true
    have : 0 ≤ phI n ∧ phI n < 2 := by
      unfold phI
      omega
    rw [decide_eq_true this.1, decide_eq_true this.2]
    rfl
  | _ => cases h
theorem newC_of {a b d : V} {n : Int} : newC [a, b, d] n = (isC3 [a, b, d] && isPh n d) := by
  show (isNum a 4 && (isDone b && isPh n d)) = ((isNum a 4 && (isDone b && isNum d 2)) && isPh n d)
  cases h : isPh n d with
  | false => rw [Bool.and_false, Bool.and_false, Bool.and_false]
  | true => rw [isPh_num h]; simp
def spIsComp : Sp := fun vs H Q _ => ∃ v t xs, vs = [v] ∧ Sv H v t xs ∧ Q (.bl (t && isC3 xs)) H
theorem ok_is_new_descriptor (T : Top K mg) : FnC P w K mg base CX0 5 (He.ga K "is_new_descriptor") (spNew newD) := by
  have G_is_order := ok_is_order (P := P) (w := w) (base := base) T
  have G_is_entry_number := ok_is_entry_number (P := P) (w := w) (base := base) T
  have G_has_phase := ok_has_phase (P := P) (w := w) (base := base) T
  refine fnc0 T.d_is_new_descriptor sc_is_new_descriptor (fun _ _ _ _ _ _ us hl => match us, hl with | [_, _], _ => rfl) (fun vs H Q E h => ?_) (fun cdv A outer s H vs Q E hr h => ?_)
  · obtain ⟨v, t, xs, n, rfl, _⟩ := h
    rfl
  · obtain ⟨v, t, xs, n, rfl, hv, k⟩ := h
    refine ⟨_, (pss_cons (ps_if (PW.pt (pw_or (pt_cmpR op_notTyB (pe_callTy call_type1 (by rfl) T.b_type (by decide +kernel) (pa_cons (pv 0) pa_nil)) (pe_bltn (v := .ty "tuple") (by rfl) T.b_tuple (by decide +kernel) rfl) (nomark _)) (pw_or1 (pt_cmpR op_ne (pe_callB call_len_seq (by rfl) T.b_len PySem.boot_len (pa_cons (pv 0) pa_nil)) pe_int (nomark _))))) (pss_one (ps_ret pe_bl)) pss_nil)
    (pss_cons (ps_asg (pv 0) (pg_tup rfl (pgs_cons (pg_name (i := 2) sc_is_new_descriptor.nd rfl (Or.inl rfl)) (pgs_cons (pg_name (i := 3) sc_is_new_descriptor.nd rfl (Or.inl rfl)) (pgs_cons (pg_name (i := 4) sc_is_new_descriptor.nd rfl (Or.inl rfl)) (pgs_cons (pg_name (i := 5) sc_is_new_descriptor.nd rfl (Or.inl rfl)) (pgs_cons (pg_name (i := 6) sc_is_new_descriptor.nd rfl (Or.inl rfl)) pgs_nil)))))))
    (pss_cons (ps_if (PW.pt (pw_or (pt_not (pt_val (pe_f G_is_order hr (by decide) (by rfl) T.g_is_order pass0 (pa_cons (pv 2) (pa_cons (pv 3) (pa_cons (pv 4) pa_nil)))))) (pw_or1 (pt_not (pt_val (pe_f G_is_entry_number hr (by decide) (by rfl) T.g_is_entry_number pass0 (pa_cons (pv 6) pa_nil))))))) (pss_one (ps_ret pe_bl)) pss_nil)
    (pss_one (ps_ret (pe_and (pe_f G_has_phase hr (by decide) (by rfl) T.g_has_phase pass0 (pa_cons (pv 5) (pa_cons (pv 1) pa_nil))) (pe_one (pe_cmpR op_eq (pv 6) (pv 1) (nomark _))))))))), ?_⟩
    refine ⟨_, rfl, _, _, rfl, hv.ty, _, _, rfl, rfl, _, rfl, ?_⟩
    cases t
    · exact k
    obtain ⟨a, rfl, e, _, es⟩ := hv
    refine ⟨_, rfl, a, xs, rfl, .inr (SqT.of e), rfl, _, rfl, ?_⟩
    show if (!decide (V.int (xs.length : Int) = V.int ((5 : Nat) : Int))) = true then _ else _
    rw [neI]
    by_cases c : xs.length = 5
    · rw [decide_eq_true c]
      obtain ⟨x1, x2, x3, x4, x5, rfl⟩ := len5 c
      have e1 := es x1 (by simp)
      have e2 := es x2 (by simp)
      have e3 := es x3 (by simp)
      have e4 := es x4 (by simp)
      have e5 := es x5 (by simp)
      refine ⟨_, rfl, a, _, rfl, SqT.of e, rfl, _, _, rfl, _, _, rfl, _, _, rfl, _, _, rfl, _, _, rfl, rfl, ?_⟩
      refine ⟨_, rfl, _, rfl, _, rfl, _, _, _, rfl, e1, e2, e3, _, rfl, ?_⟩
      have k' : Q (.bl (((isNum x1 4 && (isKind x2 && isNum x3 8)) && isNat x5) && (isPh n x4 && isSame n x5))) H := k
      cases h1 : (isNum x1 4 && (isKind x2 && isNum x3 8))
      · rw [h1] at k'
        exact k'
      refine ⟨_, rfl, _, rfl, e5, _, rfl, ?_⟩
      cases h2 : isNat x5
      · rw [h1, h2] at k'
        exact k'
      rw [h1, h2] at k'
      refine ⟨_, rfl, _, rfl, _, _, rfl, e4, _, rfl, ?_⟩
      cases h3 : isPh n x4
      · rw [h3] at k'
        exact k'
      rw [h3] at k'
      obtain ⟨i, rfl, _⟩ := isNat_int h2
      exact ⟨_, rfl, _, rfl, rfl, k'⟩
    · rw [decide_eq_false c]
      rw [newD_len c] at k
      exact k
theorem ok_is_completion (T : Top K mg) : FnC P w K mg base CX0 4 (He.ga K "is_completion") spIsComp := by
  have G_is_tag := ok_is_tag (P := P) (w := w) (base := base) T
  have G_is_number := ok_is_number (P := P) (w := w) (base := base) T
  refine fnc0 T.d_is_completion sc_is_completion (fun _ _ _ _ _ _ us hl => match us, hl with | [_], _ => rfl) (fun vs H Q E h => ?_) (fun cdv A outer s H vs Q E hr h => ?_)
  · obtain ⟨v, t, xs, rfl, _⟩ := h
    rfl
  · obtain ⟨v, t, xs, rfl, hv, k⟩ := h
    refine ⟨_, (pss_cons (ps_if (PW.pt (pw_or (pt_cmpR op_notTyB (pe_callTy call_type1 (by rfl) T.b_type (by decide +kernel) (pa_cons (pv 0) pa_nil)) (pe_bltn (v := .ty "tuple") (by rfl) T.b_tuple (by decide +kernel) rfl) (nomark _)) (pw_or1 (pt_cmpR op_ne (pe_callB call_len_seq (by rfl) T.b_len PySem.boot_len (pa_cons (pv 0) pa_nil)) pe_int (nomark _))))) (pss_one (ps_ret pe_bl)) pss_nil)
    (pss_cons (ps_asg (pv 0) (pg_tup rfl (pgs_cons (pg_name (i := 1) sc_is_completion.nd rfl (Or.inl rfl)) (pgs_cons (pg_name (i := 2) sc_is_completion.nd rfl (Or.inl rfl)) (pgs_cons (pg_name (i := 3) sc_is_completion.nd rfl (Or.inl rfl)) pgs_nil)))))
    (pss_one (ps_ret (pe_and (pe_f G_is_tag hr (by decide) (by rfl) T.g_is_tag pass0 (pa_cons (pv 1) pa_nil)) (pe_and (pe_cmpR op_isTyB (pe_callTy call_type1 (by rfl) T.b_type (by decide +kernel) (pa_cons (pv 2) pa_nil)) (pe_bltn (v := .ty "str") (by rfl) T.b_str (by decide +kernel) rfl) (nomark _)) (pe_and (pe_cmpR op_eq (pv 2) (pe_gc (by rfl) T.c_DONE) (nomark _)) (pe_one (pe_f G_is_number hr (by decide) (by rfl) T.g_is_number pass0 (pa_cons (pv 3) (pa_cons (pe_gc (by rfl) T.c_PHASES) pa_nil))))))))))), ?_⟩
    refine ⟨_, rfl, _, _, rfl, hv.ty, _, _, rfl, rfl, _, rfl, ?_⟩
    cases t
    · exact k
    obtain ⟨a, rfl, e, _, es⟩ := hv
    refine ⟨_, rfl, a, xs, rfl, .inr (SqT.of e), rfl, _, rfl, ?_⟩
    show if (!decide (V.int (xs.length : Int) = V.int ((3 : Nat) : Int))) = true then _ else _
    rw [neI]
    by_cases c : xs.length = 3
    · rw [decide_eq_true c]
      obtain ⟨x1, x2, x4, rfl⟩ := len3 c
      have e1 := es x1 (by simp)
      have e2 := es x2 (by simp)
      have e4 := es x4 (by simp)
      refine ⟨_, rfl, a, _, rfl, SqT.of e, rfl, _, _, rfl, _, _, rfl, _, _, rfl, rfl, ?_⟩
      refine ⟨_, rfl, _, rfl, e1, _, rfl, ?_⟩
      have k' : Q (.bl (isNum x1 4 && (isDone x2 && isNum x4 2))) H := k
      cases h1 : isNum x1 4
      · rw [h1] at k'
        exact k'
      rw [h1, Bool.true_and] at k'
      refine ⟨_, rfl, _, _, rfl, e2.ty, _, _, rfl, rfl, _, rfl, ?_⟩
      cases x2 with
      | str s =>
        refine ⟨_, rfl, rfl, _, rfl, ?_⟩
        show if decide (V.str s = V.str "done") = true then _ else _
        have k2 : Q (.bl (decide (V.str s = V.str "done") && isNum x4 2)) H := k'
        cases h2 : decide (V.str s = V.str "done")
        · rw [h2] at k2
          exact k2
        rw [h2, Bool.true_and] at k2
        exact ⟨_, rfl, _, _, _, rfl, e4.ty, k2⟩
      | _ => first | exact k' | exact e2.elim
    · rw [decide_eq_false c]
      rw [isC3_len c] at k
      exact k
theorem ok_is_new_completion (T : Top K mg) : FnC P w K mg base CX0 5 (He.ga K "is_new_completion") (spNew newC) := by
  have G_is_completion := ok_is_completion (P := P) (w := w) (base := base) T
  have G_phase_of := ok_phase_of (P := P) (w := w) (base := base) T
  refine fnc0 T.d_is_new_completion sc_is_new_completion (fun _ _ _ _ _ _ us hl => match us, hl with | [_, _], _ => rfl) (fun vs H Q E h => ?_) (fun cdv A outer s H vs Q E hr h => ?_)
  · obtain ⟨v, t, xs, n, rfl, _⟩ := h
    rfl
  · obtain ⟨v, t, xs, n, rfl, hv, k⟩ := h
    refine ⟨_, (pss_one (ps_ret (pe_and (pe_f G_is_completion hr (by decide) (by rfl) T.g_is_completion pass0 (pa_cons (pv 0) pa_nil)) (pe_one (pe_cmpR op_eq (pe_ix ix_tup (pv 0) pe_int (fun _ _ => rfl)) (pe_f G_phase_of hr (by decide) (by rfl) T.g_phase_of pass0 (pa_cons (pv 1) pa_nil)) (nomark _)))))), ?_⟩
    refine ⟨_, rfl, v, t, xs, rfl, hv, _, rfl, ?_⟩
    cases t
    · exact k
    obtain ⟨a, rfl, e, _, es⟩ := hv
    rw [Bool.true_and] at k ⊢
    by_cases c : xs.length = 3
    · obtain ⟨x1, x2, x4, rfl⟩ := len3 c
      rw [newC_of] at k
      cases h1 : isC3 [x1, x2, x4]
      · rw [h1] at k
        exact k
      rw [h1, Bool.true_and] at k
      have h4 : isNum x4 2 = true := (and2 (and2 (show (isNum x1 4 && (isDone x2 && isNum x4 2)) = true from h1)).2).2
      obtain ⟨i, rfl, _⟩ := isNum_int h4
      exact ⟨_, rfl, a, _, _, _, rfl, rfl, SqT.of e, rfl, _, rfl, n, rfl, rfl, k⟩
    · rw [isC3_len c]
      rw [newC_len c] at k
      exact k
end
end Rb
namespace Rb
open PySem PySem.Spec PyProof.Rows L2
/-! ### the law's own -/
def TapeL (n : Nat) (ts : List Int) : Prop := ts.length ≤ n ∧ ∀ t ∈ ts, 0 ≤ t ∧ t < 1000
theorem TapeL.add {n : Nat} {ts : List Int} {t : Int} (h : TapeL n ts) (h0 : 0 ≤ t) (h1 : t < 1000) : TapeL (n + 1) (ts ++ [t]) := by
  refine ⟨by rw [List.length_append]; exact Nat.add_le_add_right h.1 1, fun x hx => ?_⟩
  rcases List.mem_append.mp hx with q | q
  · exact h.2 x q
  · rw [List.mem_singleton.mp q]
    exact ⟨h0, h1⟩
theorem TapeL.mono {m n : Nat} {ts : List Int} (h : TapeL m ts) (l : m ≤ n) : TapeL n ts := ⟨Nat.le_trans h.1 l, h.2⟩
theorem mod1000 (v : Int) : 0 ≤ v % 1000 ∧ v % 1000 < 1000 := ⟨Int.emod_nonneg _ (by decide), Int.emod_lt_of_pos _ (by decide)⟩
def spTape (K : PySem.W.Frag) : Sp := fun vs H Q _ => ∃ (a : Addr) (ns : List Int), vs = [.ref a] ∧ SqL K H a (ns.map V.int) ∧ ns.length ≤ 63 ∧
  ∀ (p : Addr) (H' : Hp) (ts : List Int), H p = none → Same H H' → H' p = some (.lst (ts.map V.int)) → TapeL 3780 ts → Q (.ref p) H'
def spAt (K : PySem.W.Frag) : Sp := fun vs H Q _ => ∃ (a : Addr) (ts : List Int) (j : Int), vs = [.ref a, .int j] ∧ SqL K H a (ts.map V.int) ∧ 0 ≤ j ∧ (∀ x, x = ts[j.toNat]?.getD 0 → Q (.int x) H)
section
variable {P : Program} {w : World} {K : PySem.W.Frag} {mg : Str → Option Value} {base : Heap}
theorem ok_law_tape (T : Top K mg) : FnC P w K mg base CX0 1 (He.ga K "_law_tape") (spTape K) := by
  refine fnc0 T.d__law_tape sc__law_tape (fun _ _ _ _ _ _ us hl => match us, hl with | [_], _ => rfl) (fun vs H Q E h => ?_) (fun cdv A outer s H vs Q E hr h => ?_)
  · obtain ⟨a, ns, rfl, _⟩ := h
    rfl
  · obtain ⟨a, ns, rfl, hS, hlen, k⟩ := h
    refine ⟨_, (pss_cons (ps_set (i := 1) sc__law_tape.nd rfl (Or.inl rfl) (pe_lst pa_nil))
    (pss_cons (ps_for PassesOwn.never rfl (pi_range1 (by rfl) T.b_range (pa_cons (pe_callB call_len_seq (by rfl) T.b_len PySem.boot_len (pa_cons (pv 0) pa_nil)) pa_nil)) (pg_name (i := 2) sc__law_tape.nd rfl (Or.inl rfl)) (pss_cons (ps_set (i := 3) sc__law_tape.nd rfl (Or.inl rfl) (pe_callB call_abs (by rfl) T.b_abs (by decide +kernel) (pa_cons (pe_callTy call_int1 (by rfl) T.b_int (by decide +kernel) (pa_cons (pe_ix ix_list (pv 0) (pv 2) (fun _ _ => rfl)) pa_nil)) pa_nil)))
    (pss_one (ps_if (pt_cmpR op_ge (pv 3) (pe_op op_pow pe_int pe_int) (nomark _)) (pss_one (ps_for PassesOwn.never rfl (pi_range1 (by rfl) T.b_range (pa_cons pe_int pa_nil)) (pg_name (i := 4) sc__law_tape.nd rfl (Or.inl rfl)) (pss_one (ps_if (pt_cmpR op_gt (pv 3) pe_int (nomark _)) (pss_cons (ps_expr (pe_bm PySem.F.plainAttrs_list PySem.F.slot_list_append PySem.F.type_list_append mt_append (pv 1) (pa_cons (pe_op op_mod (pv 3) pe_int) pa_nil)))
    (pss_one (ps_set (i := 3) sc__law_tape.nd rfl (Or.inl rfl) (pe_op op_fdiv (pv 3) pe_int)))) pss_nil)))) (pss_one (ps_for PassesOwn.never rfl (pi_range1 (by rfl) T.b_range (pa_cons pe_int pa_nil)) (pg_name (i := 4) sc__law_tape.nd rfl (Or.inl rfl)) (pss_cons (ps_set (i := 3) sc__law_tape.nd rfl (Or.inl rfl) (pe_op op_mod (pe_op op_add (pe_op op_add (pe_op op_mul (pv 3) pe_int) (pe_op op_mul pe_int (pe_op op_add (pv 2) pe_int))) (pe_op op_mul pe_int (pv 4))) pe_int))
    (pss_cons (ps_set (i := 3) sc__law_tape.nd rfl (Or.inl rfl) (pe_op op_mod (pe_op op_mul (pv 3) pe_int) pe_int))
    (pss_one (ps_expr (pe_bm PySem.F.plainAttrs_list PySem.F.slot_list_append PySem.F.type_list_append mt_append (pv 1) (pa_cons (pe_op op_mod (pe_op op_fdiv (pv 3) pe_int) pe_int) pa_nil))))))))))))
    (pss_one (ps_ret (pv 1))))), ?_⟩
    refine ⟨by decide, fun p hp => ?_⟩
    have s0 : Same H (upd H p (.lst [])) := Same.new (Same.refl H) hp
    refine ⟨_, rfl, a, ns.map V.int, rfl, .inl (Same.seq s0 hS), _, rfl, ?_, ?_, for_range (n := (ns.map V.int).length) (fun i σ H1 => ∃ x2 x3 x4 ts, σ = [some (.ref a), some (.ref p), x2, x3, x4] ∧ H1 p = some (.lst (ts.map V.int)) ∧ Same H H1 ∧ TapeL (60 * i) ts) ?_ ?_ ?_⟩
    · rw [List.length_map]
      omega
    · rw [List.length_map]
      omega
    · exact ⟨none, none, none, [], rfl, upd_same, s0, Nat.zero_le _, fun t ht => (nomatch ht)⟩
    · rintro i σ H1 hi ⟨x2, x3, x4, ts, rfl, hL, s1, ht⟩
      have hi : i < ns.length := by
        rw [List.length_map] at hi
        exact hi
      have hx : (ns.map V.int)[i]? = some (V.int ns[i]) := by
        rw [List.getElem?_map, List.getElem?_eq_getElem hi]
        rfl
      refine ⟨_, rfl, _, rfl, a, _, _, V.int ns[i], rfl, rfl, Same.seq s1 hS, ?_, .inl ⟨ns[i], rfl, _, rfl, ?_⟩⟩
      · rw [Int.zero_add]
        exact atI_n hx
      generalize (if ns[i] < 0 then -ns[i] else ns[i]) = v
      refine ⟨_, rfl, _, _, rfl, rfl, ⟨by decide, by decide, by decide⟩, _, _, rfl, rfl, _, rfl, ?_⟩
      refine ite2 (fun _ => ?_) (fun _ => ?_)
      · -- the long way
        refine ⟨60, rfl, by decide, by decide, for_range (n := 60) (fun j σ H2 => ∃ v x4 ts, σ = [some (.ref a), some (.ref p), some (.int (0 + (i : Int))), some (.int v), x4] ∧ H2 p = some (.lst (ts.map V.int)) ∧ Same H H2 ∧ TapeL (60 * i + j) ts) ?_ ?_ ?_⟩
        · exact ⟨v, x4, ts, rfl, hL, s1, ht⟩
        · rintro j σ H2 hj ⟨v, x4, ts, rfl, hL2, s2, ht2⟩
          refine ⟨_, rfl, _, _, rfl, rfl, _, rfl, ?_⟩
          refine ite2 (fun _ => ?_) (fun _ => ?_)
          · refine ⟨_, rfl, .inl ⟨rfl, _, SqL.of hL2⟩, _, rfl, _, _, rfl, rfl, (by show (0 : Int) < 1000; decide), p, _, _, rfl, rfl, hL2, ?_, ?_⟩
            · rw [List.length_map]
              exact Nat.lt_of_le_of_lt (Nat.le_trans ht2.1 (show 60 * i + j ≤ 3780 by omega)) (by decide : 3780 < sizeLine)
            · refine ⟨_, rfl, _, _, rfl, rfl, ⟨by decide, by decide⟩, ?_⟩
              refine ⟨_, _, ts ++ [v % 1000], rfl, ?_, fun b o e => ?_, ht2.add (mod1000 v).1 (mod1000 v).2⟩
              · rw [upd_same, List.map_append]
                rfl
              · rw [upd_ne (ne_of_none e hp)]
                exact s2 b o e
          · exact ⟨v, _, ts, rfl, hL2, s2, ht2.mono (by omega)⟩
        · rintro σ H2 ⟨v, x4, ts, rfl, hL2, s2, ht2⟩
          exact ⟨_, _, _, ts, rfl, hL2, s2, ht2.mono (by omega)⟩
      · refine ⟨4, rfl, by decide, by decide, for_range (n := 4) (fun j σ H2 => ∃ v x4 ts, σ = [some (.ref a), some (.ref p), some (.int (0 + (i : Int))), some (.int v), x4] ∧ H2 p = some (.lst (ts.map V.int)) ∧ Same H H2 ∧ TapeL (60 * i + j) ts) ?_ ?_ ?_⟩
        · exact ⟨v, x4, ts, rfl, hL, s1, ht⟩
        · rintro j σ H2 hj ⟨v, x4, ts, rfl, hL2, s2, ht2⟩
          refine ⟨_, rfl, _, _, rfl, rfl, .inr ⟨by decide, by decide⟩, _, rfl, _, _, rfl, rfl, _, _, rfl, rfl, .inl ⟨by decide, by decide⟩, _, _, rfl, rfl, _, rfl, _, _, rfl, rfl, .inl ⟨by decide, by decide⟩, _, _, rfl, rfl, _, _, rfl, rfl, (by show (0 : Int) < 2147483647; decide), ?_⟩
          refine ⟨_, rfl, _, _, rfl, rfl, .inr ⟨by decide, by decide⟩, _, _, rfl, rfl, (by show (0 : Int) < 2147483647; decide), ?_⟩
          refine ⟨_, rfl, .inl ⟨rfl, _, SqL.of hL2⟩, _, rfl, _, _, rfl, rfl, ⟨by decide, by decide⟩, _, _, rfl, rfl, (by show (0 : Int) < 1000; decide), p, _, _, rfl, rfl, hL2, ?_, ?_⟩
          · rw [List.length_map]
            exact Nat.lt_of_le_of_lt (Nat.le_trans ht2.1 (show 60 * i + j ≤ 3780 by omega)) (by decide : 3780 < sizeLine)
          · refine ⟨_, _, ts ++ [((v * 48271 + 69621 * (0 + (i : Int) + 1) + 7 * (0 + (j : Int))) % 2147483647 * 16807 % 2147483647 / 1000) % 1000], rfl, ?_, fun b o e => ?_, ht2.add (mod1000 _).1 (mod1000 _).2⟩
            · rw [upd_same, List.map_append]
              rfl
            · rw [upd_ne (ne_of_none e hp)]
              exact s2 b o e
        · rintro σ H2 ⟨v, x4, ts, rfl, hL2, s2, ht2⟩
          exact ⟨_, _, _, ts, rfl, hL2, s2, ht2.mono (by omega)⟩
    · rintro σ H1 ⟨x2, x3, x4, ts, rfl, hL, s1, ht⟩
      rw [List.length_map] at ht
      exact ⟨_, rfl, k p H1 ts hp s1 hL (ht.mono (by omega))⟩
theorem ok_law_at (T : Top K mg) : FnC P w K mg base CX0 1 (He.ga K "_law_at") (spAt K) := by
  refine fnc0 T.d__law_at sc__law_at (fun _ _ _ _ _ _ us hl => match us, hl with | [_, _], _ => rfl) (fun vs H Q E h => ?_) (fun cdv A outer s H vs Q E hr h => ?_)
  · obtain ⟨a, ts, j, rfl, _⟩ := h
    rfl
  · obtain ⟨a, ts, j, rfl, hS, h0, k⟩ := h
    obtain ⟨j, rfl⟩ : ∃ n : Nat, j = (n : Int) := ⟨j.toNat, by omega⟩
    have k := k _ rfl
    rw [Int.toNat_natCast] at k
    refine ⟨_, (pss_cons (ps_if (pt_cmpR op_lt (pv 1) (pe_callB call_len_seq (by rfl) T.b_len PySem.boot_len (pa_cons (pv 0) pa_nil)) (nomark _)) (pss_one (ps_ret (pe_ix ix_list (pv 0) (pv 1) (fun _ _ => rfl)))) pss_nil)
    (pss_one (ps_ret pe_int))), ?_⟩
    refine ⟨_, rfl, _, rfl, a, _, rfl, .inl hS, _, _, rfl, rfl, _, rfl, ?_⟩
    rw [List.length_map]
    refine ite2 (fun c => ?_) (fun c => ?_)
    · have hj : j < ts.length := by
        have := of_decide_eq_true c
        omega
      have hx : (ts.map V.int)[j]? = some (V.int (ts[j]?.getD 0)) := by
        rw [List.getElem?_map, List.getElem?_eq_getElem hj]
        rfl
      exact ⟨_, rfl, _, rfl, a, _, _, _, rfl, rfl, hS, atI_n hx, k⟩
    · have hj : ts.length ≤ j := by
        have := of_decide_eq_false (by simpa using c : decide ((j : Int) < (ts.length : Int)) = false)
        omega
      rw [List.getElem?_eq_none hj] at k
      exact k
def inR (l : Int) : V → V → Bool
  | .int h, .int i => decide (l ≤ i) && decide (i ≤ h)
  | .non, .int i => decide (l ≤ i)
  | _, _ => false
def spInt : Sp := fun vs H Q _ => ∃ v l h, vs = [v, .int l, h] ∧ El H v ∧ (h = .non ∨ ∃ i, h = .int i) ∧ Q (.bl (inR l h v)) H
theorem ok_law_integer (T : Top K mg) : FnC P w K mg base CX0 1 (He.ga K "_law_integer") spInt := by
  refine fnc0 T.d__law_integer sc__law_integer (fun _ _ _ _ _ _ us hl => match us, hl with | [_, _, _], _ => rfl) (fun vs H Q E h => ?_) (fun cdv A outer s H vs Q E hr h => ?_)
  · obtain ⟨v, l, h, rfl, _⟩ := h
    rfl
  · obtain ⟨v, l, h, rfl, ev, eh, k⟩ := h
    refine ⟨_, (pss_one (ps_ret (pe_and (pe_callB call_isi (by rfl) T.b_isinstance (by decide +kernel) (pa_cons (pv 0) (pa_cons (pe_bltn (v := .ty "int") (by rfl) T.b_int (by decide +kernel) rfl) pa_nil))) (pe_and (pe_not (pe_callB call_isi (by rfl) T.b_isinstance (by decide +kernel) (pa_cons (pv 0) (pa_cons (pe_bltn (v := .ty "bool") (by rfl) T.b_bool (by decide +kernel) rfl) pa_nil)))) (pe_and (pe_cmpR op_ge (pv 0) (pv 1) (nomark _)) (pe_one (pe_or (pe_cmp (pc_isN (pv 2))) (pe_one (pe_cmpR op_le (pv 0) (pv 2) (nomark _)))))))))), ?_⟩
    cases v with
    | int i =>
      refine ⟨_, rfl, _, _, _, _, true, rfl, .ty _, ev.tx, kit_ty (a := "int") (b := "int") (by decide +kernel), _, rfl, ?_⟩
      refine ⟨_, rfl, _, _, _, _, false, rfl, .ty _, ev.tx, kit_ty (a := "int") (b := "bool") (by decide +kernel), _, rfl, _, rfl, ?_⟩
      refine ⟨_, rfl, _, rfl, i, l, rfl, rfl, _, rfl, ?_⟩
      rcases eh with rfl | ⟨x, rfl⟩
      · have k' : Q (.bl (decide (l ≤ i))) H := k
        cases c : decide (l ≤ i)
        · rw [c] at k'
          exact k'
        · rw [c] at k'
          exact ⟨_, rfl, _, rfl, k'⟩
      · have k' : Q (.bl (decide (l ≤ i) && decide (i ≤ x))) H := k
        cases c : decide (l ≤ i)
        · rw [c] at k'
          exact k'
        · rw [c] at k'
          exact ⟨_, rfl, _, rfl, _, rfl, _, rfl, i, x, rfl, rfl, k'⟩
    | bl b =>
      have k' : Q (.bl false) H := by
        rcases eh with rfl | ⟨x, rfl⟩ <;> exact k
      refine ⟨_, rfl, _, _, _, _, true, rfl, .ty _, ev.tx, kit_ty (a := "bool") (b := "int") (by decide +kernel), _, rfl, ?_⟩
      exact ⟨_, rfl, _, _, _, _, true, rfl, .ty _, ev.tx, kit_ty (a := "bool") (b := "bool") (by decide +kernel), _, rfl, _, rfl, k'⟩
    | non =>
      have k' : Q (.bl false) H := by
        rcases eh with rfl | ⟨x, rfl⟩ <;> exact k
      exact ⟨_, rfl, _, _, _, _, false, rfl, .ty _, ev.tx, kit_ty (a := "NoneType") (b := "int") (by decide +kernel), _, rfl, k'⟩
    | str s =>
      have k' : Q (.bl false) H := by
        rcases eh with rfl | ⟨x, rfl⟩ <;> exact k
      exact ⟨_, rfl, _, _, _, _, false, rfl, .ty _, ev.tx, kit_ty (a := "str") (b := "int") (by decide +kernel), _, rfl, k'⟩
    | ref a =>
      have k' : Q (.bl false) H := by
        rcases eh with rfl | ⟨x, rfl⟩ <;> exact k
      exact ⟨_, rfl, _, _, _, _, false, rfl, .ty _, ev.tx, kit_ty (a := "tuple") (b := "int") (by decide +kernel), _, rfl, k'⟩
    | _ => exact ev.elim
theorem atPh (n : Int) : atI [V.int 1, .int 0] (n / 4 % 2) = some (.int (phI n)) := by
  have h : n / 4 % 2 = 0 ∨ n / 4 % 2 = 1 := by omega
  unfold phI
  rcases h with h | h <;> rw [h] <;> rfl
def spLPh : Sp := fun vs H Q _ => ∃ n, vs = [.int n] ∧ ∀ p, H p = none → Q (.int (phI n)) (upd H p (.lst [.int 1, .int 0]))
theorem ok_law_phase (T : Top K mg) : FnC P w K mg base CX0 1 (He.ga K "_law_phase") spLPh := by
  refine fnc0 T.d__law_phase sc__law_phase (fun _ _ _ _ _ _ us hl => match us, hl with | [_], _ => rfl) (fun vs H Q E h => ?_) (fun cdv A outer s H vs Q E hr h => ?_)
  · obtain ⟨n, rfl, _⟩ := h
    rfl
  · obtain ⟨n, rfl, k⟩ := h
    refine ⟨_, (pss_one (ps_ret (pe_ix ix_list (pe_lst (pa_cons pe_int (pa_cons pe_int pa_nil))) (pe_op op_mod (pe_op op_fdiv (pv 0) pe_int) pe_int) (fun _ _ => rfl)))), ?_⟩
    refine ⟨(by show 2 ≤ sizeLine; decide), fun p hp => ?_⟩
    exact ⟨_, rfl, _, _, rfl, rfl, ⟨by decide, by decide⟩, _, _, rfl, rfl, (by show (0 : Int) < 2; decide), p, _, _, _, rfl, rfl, SqL.of upd_same, atPh n, k p hp⟩
def fitL (a b c e : V) : Bool := isKind b && (inR 0 (.int 3) a && (inR 0 (.int 7) c && inR 0 .non e))
theorem inR_num {v : V} {m l : Int} (h : l = m + 1) : inR 0 (.int m) v = isNum v l := by
  subst h
  cases v with
  | int i =>
    show (decide ((0 : Int) ≤ i) && decide (i ≤ m)) = (decide (0 ≤ i) && decide (i < m + 1))
    congr 1
    rw [decide_eq_decide]
    omega
  | _ => rfl
theorem inR_nat {v : V} : inR 0 .non v = isNat v := by
  cases v <;> rfl
theorem fitL_eq (a b c e : V) : fitL a b c e = fitD a b c e := by
  unfold fitL fitD
  rw [inR_num (l := 4) rfl, inR_num (l := 8) rfl, inR_nat]
  cases isKind b <;> cases isNum a 4 <;> cases isNum c 8 <;> cases isNat e <;> rfl
def SqAny (K : PySem.W.Frag) (H : Hp) (p : Addr) (xs : List V) : Prop := SqL K H p xs ∨ SqT K H p xs
theorem ix_any {K : PySem.W.Frag} {H : Hp} {p : Addr} {xs : List V} {i : Int} {v : V} {Q : VK} (h : SqAny K H p xs) (e : atI xs i = some v) (k : Q v H) : rIx K (.ref p) (.int i) H Q := by
  rcases h with h | h
  · exact .inl ⟨p, xs, i, v, rfl, rfl, h, e, k⟩
  · exact .inr (.inl ⟨p, xs, i, v, rfl, rfl, h, e, k⟩)
def spFit (K : PySem.W.Frag) : Sp := fun vs H Q _ => ∃ p a b c e, vs = [.ref p] ∧ SqAny K H p [a, b, c, e] ∧ El H a ∧ El H b ∧ El H c ∧ El H e ∧ ∀ H', Same H H' → Q (.bl (fitD a b c e)) H'
theorem SqAny.same {K : PySem.W.Frag} {H H' : Hp} {p : Addr} {xs : List V} (s : Same H H') (h : SqAny K H p xs) : SqAny K H' p xs := h.imp (Same.seq s) (Same.seqT s)
theorem ok_law_fit (T : Top K mg) : FnC P w K mg base CX0 2 (He.ga K "_law_fit") (spFit K) := by
  have G__law_integer := ok_law_integer (P := P) (w := w) (base := base) T
  refine fnc0 T.d__law_fit sc__law_fit (fun _ _ _ _ _ _ us hl => match us, hl with | [_], _ => rfl) (fun vs H Q E h => ?_) (fun cdv A outer s H vs Q E hr h => ?_)
  · obtain ⟨p, a, b, c, e, rfl, _⟩ := h
    rfl
  · obtain ⟨p, a, b, c, e, rfl, hq, ea, eb, ec, ee, k⟩ := h
    refine ⟨_, (pss_cons (ps_set (i := 1) sc__law_fit.nd rfl (Or.inl rfl) (pe_and (pe_callB call_isi (by rfl) T.b_isinstance (by decide +kernel) (pa_cons (pe_ix ix_seq (pv 0) pe_int (fun _ _ => rfl)) (pa_cons (pe_bltn (v := .ty "str") (by rfl) T.b_str (by decide +kernel) rfl) pa_nil))) (pe_one (pe_cmpR op_in_seq (pe_ix ix_seq (pv 0) pe_int (fun _ _ => rfl)) (pe_tup (pa_cons pe_str (pa_cons pe_str pa_nil))) rfl))))
    (pss_one (ps_ret (pe_and (pv 1) (pe_and (pe_f G__law_integer hr (by decide) (by rfl) T.g__law_integer pass0 (pa_cons (pe_ix ix_seq (pv 0) pe_int (fun _ _ => rfl)) (pa_cons pe_int (pa_cons pe_int pa_nil)))) (pe_and (pe_f G__law_integer hr (by decide) (by rfl) T.g__law_integer pass0 (pa_cons (pe_ix ix_seq (pv 0) pe_int (fun _ _ => rfl)) (pa_cons pe_int (pa_cons pe_int pa_nil)))) (pe_one (pe_f G__law_integer hr (by decide) (by rfl) T.g__law_integer pass0 (pa_cons (pe_ix ix_seq (pv 0) pe_int (fun _ _ => rfl)) (pa_cons pe_int (pa_cons pe_non pa_nil))))))))))), ?_⟩
    rw [← fitL_eq] at k
    unfold fitL at k
    refine ⟨_, rfl, ix_any hq rfl ?_⟩
    cases b with
    | str s =>
      refine ⟨_, _, _, _, true, rfl, .ty _, eb.tx, kit_ty (a := "str") (b := "str") (by decide +kernel), _, rfl, ?_⟩
      refine ⟨_, rfl, ix_any hq rfl ⟨(by show 2 ≤ sizeLine; decide), fun q hn => ?_⟩⟩
      have s1 := Same.new (o := HO.tup [V.str "read", .str "write"]) (Same.refl H) hn
      have k := k _ s1
      have hq := hq.same s1
      refine ⟨q, _, rfl, .inr (SqT.of upd_same), rfl, (by rfl), ?_⟩
      refine ⟨_, rfl, _, rfl, ?_⟩
      have k' : Q (.bl (inV (.str s) [.str "read", .str "write"] && (inR 0 (.int 3) a && (inR 0 (.int 7) c && inR 0 .non e)))) _ := k
      show if inV (.str s) [.str "read", .str "write"] = true then _ else _
      cases h1 : inV (.str s) [.str "read", .str "write"]
      · rw [h1] at k'
        exact k'
      rw [h1] at k'
      refine ⟨_, rfl, ix_any hq rfl ⟨_, _, _, rfl, ea.same s1, .inr ⟨_, rfl⟩, _, rfl, ?_⟩⟩
      cases h2 : inR 0 (.int 3) a
      · rw [h2] at k'
        exact k'
      rw [h2] at k'
      refine ⟨_, rfl, ix_any hq rfl ⟨_, _, _, rfl, ec.same s1, .inr ⟨_, rfl⟩, _, rfl, ?_⟩⟩
      cases h3 : inR 0 (.int 7) c
      · rw [h3] at k'
        exact k'
      rw [h3] at k'
      exact ⟨_, rfl, ix_any hq rfl ⟨_, _, _, rfl, ee.same s1, .inl rfl, k'⟩⟩
    | non => exact ⟨_, _, _, _, false, rfl, .ty _, eb.tx, kit_ty (a := "NoneType") (b := "str") (by decide +kernel), _, rfl, _, rfl, _, rfl, k _ (Same.refl H)⟩
    | bl x => exact ⟨_, _, _, _, false, rfl, .ty _, eb.tx, kit_ty (a := "bool") (b := "str") (by decide +kernel), _, rfl, _, rfl, _, rfl, k _ (Same.refl H)⟩
    | int i => exact ⟨_, _, _, _, false, rfl, .ty _, eb.tx, kit_ty (a := "int") (b := "str") (by decide +kernel), _, rfl, _, rfl, _, rfl, k _ (Same.refl H)⟩
    | ref a => exact ⟨_, _, _, _, false, rfl, .ty _, eb.tx, kit_ty (a := "tuple") (b := "str") (by decide +kernel), _, rfl, _, rfl, _, rfl, k _ (Same.refl H)⟩
    | _ => exact eb.elim
end
end Rb
namespace Rb
open PySem PySem.Spec PyProof.Rows L2
theorem eqvI (i j : Int) : PyData.eqv (.int i) (.int j) = decide (V.int i = V.int j) := by
  have e : PyData.eqv (.int i) (.int j) = (i == j) := rfl
  rw [e]
  by_cases c : i = j
  · subst c
    rw [decide_eq_true rfl, beq_self_eq_true]
  · rw [decide_eq_false (fun z => c (V.int.inj z)), beq_eq_false_iff_ne.mpr c]
def isInt01 (v : V) : Bool := inR 0 (.int 1) v
theorem inR_int {l : Int} {h v : V} (e : inR l h v = true) : ∃ i, v = .int i := by
  cases v with
  | int i => exact ⟨i, rfl⟩
  | _ => cases h <;> cases e
theorem ph01 (n : Int) : phI n = 0 ∨ phI n = 1 := by
  unfold phI
  omega
theorem in01 {v : V} {n : Int} (h : inR 0 (.int 1) v = false) : isPh n v = false := by
  cases v with
  | int i =>
    have h' : (decide ((0 : Int) ≤ i) && decide (i ≤ 1)) = false := h
    show decide (V.int i = V.int (phI n)) = false
    rw [decide_eq_false]
    intro z
    injection z with z
    rcases ph01 n with e | e <;> (rw [e] at z; subst z; cases h')
  | _ => rfl
def spLNew (f : List V → Int → Bool) : Sp := fun vs H Q _ => ∃ v t xs n, vs = [v, .int n] ∧ Sv H v t xs ∧ ∀ H', Same H H' → Q (.bl (t && f xs n)) H'
def spLSame : Sp := fun vs H Q _ => ∃ a b, vs = [.bl a, .bl b] ∧ Q (.bl (decide (V.bl a = V.bl b))) H
section
variable {P : Program} {w : World} {K : PySem.W.Frag} {mg : Str → Option Value} {base : Heap}
theorem isi_tup {v : V} {t : Bool} {xs : List V} {H : Hp} (hv : Sv H v t xs) : PySem.W.kitOne K (.type (if t then "tuple" else "list")) (.type "tuple") = some t := by
  cases t
  · exact kit_ty (a := "list") (b := "tuple") (by decide +kernel)
  · exact kit_ty (a := "tuple") (b := "tuple") (by decide +kernel)
theorem ok_law_same (T : Top K mg) : FnC P w K mg base CX0 1 (He.ga K "_law_same") spLSame := by
  refine fnc0 T.d__law_same sc__law_same (fun _ _ _ _ _ _ us hl => match us, hl with | [_, _], _ => rfl) (fun vs H Q E h => ?_) (fun cdv A outer s H vs Q E hr h => ?_)
  · obtain ⟨a, b, rfl, _⟩ := h
    rfl
  · obtain ⟨a, b, rfl, k⟩ := h
    refine ⟨_, (pss_one (ps_ret (pe_and (pe_callB call_isi (by rfl) T.b_isinstance (by decide +kernel) (pa_cons (pv 0) (pa_cons (pe_bltn (v := .ty "bool") (by rfl) T.b_bool (by decide +kernel) rfl) pa_nil))) (pe_one (pe_cmpR op_eq (pv 0) (pv 1) (nomark _)))))), ?_⟩
    exact ⟨_, rfl, _, _, _, _, true, rfl, .ty _, .base (.bl a), kit_ty (a := "bool") (b := "bool") (by decide +kernel), _, rfl, _, rfl, _, rfl, rfl, k⟩
theorem ok_law_new_descriptor (T : Top K mg) : FnC P w K mg base CX0 3 (He.ga K "_law_new_descriptor") (spLNew newD) := by
  have G__law_fit := ok_law_fit (P := P) (w := w) (base := base) T
  have G__law_integer := ok_law_integer (P := P) (w := w) (base := base) T
  have G__law_phase := ok_law_phase (P := P) (w := w) (base := base) T
  refine fnc0 T.d__law_new_descriptor sc__law_new_descriptor (fun _ _ _ _ _ _ us hl => match us, hl with | [_, _], _ => rfl) (fun vs H Q E h => ?_) (fun cdv A outer s H vs Q E hr h => ?_)
  · obtain ⟨v, t, xs, n, rfl, _⟩ := h
    rfl
  · obtain ⟨v, t, xs, n, rfl, hv, k⟩ := h
    have hu64 := hr.units
    refine ⟨_, (pss_cons (ps_if (PW.pt (pw_or (pt_not (pt_val (pe_callB call_isi (by rfl) T.b_isinstance (by decide +kernel) (pa_cons (pv 0) (pa_cons (pe_bltn (v := .ty "tuple") (by rfl) T.b_tuple (by decide +kernel) rfl) pa_nil))))) (pw_or (pt_cmpR op_ne (pe_callB call_len_seq (by rfl) T.b_len PySem.boot_len (pa_cons (pv 0) pa_nil)) pe_int (nomark _)) (pw_or1 (pt_not (pt_val (pe_f G__law_fit hr (by decide) (by rfl) T.g__law_fit pass0 (pa_cons (pe_tup (pa_cons (pe_ix ix_tup (pv 0) pe_int (fun _ _ => rfl)) (pa_cons (pe_ix ix_tup (pv 0) pe_int (fun _ _ => rfl)) (pa_cons (pe_ix ix_tup (pv 0) pe_int (fun _ _ => rfl)) (pa_cons (pe_ix ix_tup (pv 0) pe_int (fun _ _ => rfl)) pa_nil))))) pa_nil)))))))) (pss_one (ps_ret pe_bl)) pss_nil)
    (pss_one (ps_ret (pe_and (pe_f G__law_integer hr (by decide) (by rfl) T.g__law_integer pass0 (pa_cons (pe_ix ix_tup (pv 0) pe_int (fun _ _ => rfl)) (pa_cons pe_int (pa_cons pe_int pa_nil)))) (pe_and (pe_cmpR (op_eqD hu64) (pe_ix ix_tup (pv 0) pe_int (fun _ _ => rfl)) (pe_f G__law_phase hr (by decide) (by rfl) T.g__law_phase pass0 (pa_cons (pv 1) pa_nil)) (nomark _)) (pe_one (pe_cmpR (op_eqD hu64) (pe_ix ix_tup (pv 0) pe_int (fun _ _ => rfl)) (pv 1) (nomark _)))))))), ?_⟩
    refine ⟨_, rfl, _, _, _, _, t, rfl, .ty _, hv.tx, isi_tup hv, _, rfl, ?_⟩
    cases t
    · exact k _ (Same.refl H)
    obtain ⟨a, rfl, e, _, es⟩ := hv
    have e : H a = some (.tup xs) := e
    refine ⟨_, rfl, a, xs, rfl, .inr (SqT.of e), rfl, _, rfl, ?_⟩
    show if (!decide (V.int (xs.length : Int) = V.int ((5 : Nat) : Int))) = true then _ else _
    rw [neI]
    by_cases c : xs.length = 5
    · rw [decide_eq_true c]
      obtain ⟨x1, x2, x3, x4, x5, rfl⟩ := len5 c
      have e1 := es x1 (by simp)
      have e2 := es x2 (by simp)
      have e3 := es x3 (by simp)
      have e4 := es x4 (by simp)
      have e5 := es x5 (by simp)
      have q := SqT.of (K := K) e
      refine ⟨_, rfl, a, _, _, _, rfl, rfl, q, rfl, _, rfl, a, _, _, _, rfl, rfl, q, rfl, _, rfl, a, _, _, _, rfl, rfl, q, rfl, _, rfl, a, _, _, _, rfl, rfl, q, rfl, (by show 4 ≤ sizeLine; decide), fun p hp => ?_⟩
      have s1 := Same.new (o := HO.tup [x1, x2, x3, x5]) (Same.refl H) hp
      refine ⟨p, _, _, _, _, rfl, .inr (SqT.of upd_same), e1.same s1, e2.same s1, e3.same s1, e5.same s1, fun H2 s2 => ⟨_, rfl, ?_⟩⟩
      have s02 := s1.trans s2
      have k' : ∀ H', Same H H' → Q (.bl (fitD x1 x2 x3 x5 && (isPh n x4 && isSame n x5))) H' := k
      cases h1 : fitD x1 x2 x3 x5
      · rw [h1] at k'
        exact k' _ s02
      rw [h1] at k'
      refine ⟨_, rfl, a, _, _, _, rfl, rfl, Same.seqT s02 q, rfl, _, _, _, rfl, e4.same s02, .inr ⟨_, rfl⟩, _, rfl, ?_⟩
      cases h2 : inR 0 (.int 1) x4
      · rw [in01 h2] at k'
        exact k' _ s02
      obtain ⟨i4, rfl⟩ := inR_int h2
      refine ⟨_, rfl, a, _, _, _, rfl, rfl, Same.seqT s02 q, rfl, _, rfl, n, rfl, fun p3 hp3 => ?_⟩
      have s3 := s02.trans (Same.new (o := HO.lst [V.int 1, .int 0]) (Same.refl H2) hp3)
      refine ⟨.int i4, .int (phI n), .int _, .int _, by rfl, by rfl, _, rfl, ?_⟩
      rw [eqvI]
      have k2 : ∀ H', Same H H' → Q (.bl (true && (decide (V.int i4 = V.int (phI n)) && isSame n x5))) H' := k'
      cases h3 : decide (V.int i4 = V.int (phI n))
      · rw [h3] at k2
        exact k2 _ s3
      rw [h3] at k2
      obtain ⟨h1a, h1b⟩ := Bool.and_eq_true_iff.mp h1
      obtain ⟨i5, rfl, _⟩ := isNat_int h1b
      refine ⟨_, rfl, a, _, _, _, rfl, rfl, Same.seqT s3 q, rfl, _, rfl, .int i5, .int n, .int _, .int _, by rfl, by rfl, ?_⟩
      rw [eqvI]
      exact k2 _ s3
    · rw [decide_eq_false c]
      rw [newD_len c] at k
      exact k _ (Same.refl H)
theorem ok_law_new_completion (T : Top K mg) : FnC P w K mg base CX0 3 (He.ga K "_law_new_completion") (spLNew newC) := by
  have G__law_integer := ok_law_integer (P := P) (w := w) (base := base) T
  have G__law_phase := ok_law_phase (P := P) (w := w) (base := base) T
  refine fnc0 T.d__law_new_completion sc__law_new_completion (fun _ _ _ _ _ _ us hl => match us, hl with | [_, _], _ => rfl) (fun vs H Q E h => ?_) (fun cdv A outer s H vs Q E hr h => ?_)
  · obtain ⟨v, t, xs, n, rfl, _⟩ := h
    rfl
  · obtain ⟨v, t, xs, n, rfl, hv, k⟩ := h
    have hu64 := hr.units
    refine ⟨_, (pss_cons (ps_if (PW.pt (pw_or (pt_not (pt_val (pe_callB call_isi (by rfl) T.b_isinstance (by decide +kernel) (pa_cons (pv 0) (pa_cons (pe_bltn (v := .ty "tuple") (by rfl) T.b_tuple (by decide +kernel) rfl) pa_nil))))) (pw_or (pt_cmpR op_ne (pe_callB call_len_seq (by rfl) T.b_len PySem.boot_len (pa_cons (pv 0) pa_nil)) pe_int (nomark _)) (pw_or1 (pt_not (pt_val (pe_f G__law_integer hr (by decide) (by rfl) T.g__law_integer pass0 (pa_cons (pe_ix ix_tup (pv 0) pe_int (fun _ _ => rfl)) (pa_cons pe_int (pa_cons pe_int pa_nil)))))))))) (pss_one (ps_ret pe_bl)) pss_nil)
    (pss_cons (ps_if (PW.pt (pw_or (pt_not (pt_val (pe_callB call_isi (by rfl) T.b_isinstance (by decide +kernel) (pa_cons (pe_ix ix_tup (pv 0) pe_int (fun _ _ => rfl)) (pa_cons (pe_bltn (v := .ty "str") (by rfl) T.b_str (by decide +kernel) rfl) pa_nil))))) (pw_or1 (pt_cmpR op_ne (pe_ix ix_tup (pv 0) pe_int (fun _ _ => rfl)) pe_str (nomark _))))) (pss_one (ps_ret pe_bl)) pss_nil)
    (pss_one (ps_ret (pe_and (pe_f G__law_integer hr (by decide) (by rfl) T.g__law_integer pass0 (pa_cons (pe_ix ix_tup (pv 0) pe_int (fun _ _ => rfl)) (pa_cons pe_int (pa_cons pe_int pa_nil)))) (pe_one (pe_cmpR (op_eqD hu64) (pe_ix ix_tup (pv 0) pe_int (fun _ _ => rfl)) (pe_f G__law_phase hr (by decide) (by rfl) T.g__law_phase pass0 (pa_cons (pv 1) pa_nil)) (nomark _)))))))), ?_⟩
    refine ⟨_, rfl, _, _, _, _, t, rfl, .ty _, hv.tx, isi_tup hv, _, rfl, ?_⟩
    cases t
    · exact k _ (Same.refl H)
    obtain ⟨a, rfl, e, _, es⟩ := hv
    have e : H a = some (.tup xs) := e
    refine ⟨_, rfl, a, xs, rfl, .inr (SqT.of e), rfl, _, rfl, ?_⟩
    show if (!decide (V.int (xs.length : Int) = V.int ((3 : Nat) : Int))) = true then _ else _
    rw [neI]
    by_cases c : xs.length = 3
    · rw [decide_eq_true c]
      obtain ⟨x1, x2, x4, rfl⟩ := len3 c
      have e1 := es x1 (by simp)
      have e2 := es x2 (by simp)
      have e4 := es x4 (by simp)
      have q := SqT.of (K := K) e
      refine ⟨_, rfl, a, _, _, _, rfl, rfl, q, rfl, _, _, _, rfl, e1, .inr ⟨_, rfl⟩, _, rfl, ?_⟩
      have k' : ∀ H', Same H H' → Q (.bl (isNum x1 4 && (isDone x2 && isPh n x4))) H' := k
      rw [← inR_num (l := 4) (m := 3) rfl] at k'
      cases h1 : inR 0 (.int 3) x1
      · rw [h1] at k'
        exact k' _ (Same.refl H)
      rw [h1] at k'
      refine ⟨_, rfl, a, _, _, _, rfl, rfl, q, rfl, ?_⟩
      cases x2 with
      | str s =>
        refine ⟨_, _, _, _, true, rfl, .ty _, e2.tx, kit_ty (a := "str") (b := "str") (by decide +kernel), _, rfl, ?_⟩
        refine ⟨_, rfl, a, _, _, _, rfl, rfl, q, rfl, rfl, _, rfl, ?_⟩
        have k2 : ∀ H', Same H H' → Q (.bl (true && (decide (V.str s = V.str "done") && isPh n x4))) H' := k'
        show if (!decide (V.str s = V.str "done")) = true then _ else _
        cases h2 : decide (V.str s = V.str "done")
        · rw [h2] at k2
          exact k2 _ (Same.refl H)
        rw [h2] at k2
        refine ⟨_, rfl, a, _, _, _, rfl, rfl, q, rfl, _, _, _, rfl, e4, .inr ⟨_, rfl⟩, _, rfl, ?_⟩
        cases h3 : inR 0 (.int 1) x4
        · rw [in01 h3] at k2
          exact k2 _ (Same.refl H)
        obtain ⟨i4, rfl⟩ := inR_int h3
        refine ⟨_, rfl, a, _, _, _, rfl, rfl, q, rfl, _, rfl, n, rfl, fun p3 hp3 => ?_⟩
        refine ⟨.int i4, .int (phI n), .int _, .int _, by rfl, by rfl, ?_⟩
        rw [eqvI]
        exact k2 _ (Same.new (Same.refl H) hp3)
      | non => exact ⟨_, _, _, _, false, rfl, .ty _, e2.tx, kit_ty (a := "NoneType") (b := "str") (by decide +kernel), _, rfl, k' _ (Same.refl H)⟩
      | bl x => exact ⟨_, _, _, _, false, rfl, .ty _, e2.tx, kit_ty (a := "bool") (b := "str") (by decide +kernel), _, rfl, k' _ (Same.refl H)⟩
      | int i => exact ⟨_, _, _, _, false, rfl, .ty _, e2.tx, kit_ty (a := "int") (b := "str") (by decide +kernel), _, rfl, k' _ (Same.refl H)⟩
      | ref b => exact ⟨_, _, _, _, false, rfl, .ty _, e2.tx, kit_ty (a := "tuple") (b := "str") (by decide +kernel), _, rfl, k' _ (Same.refl H)⟩
      | _ => exact e2.elim
    · rw [decide_eq_false c]
      rw [newC_len c] at k
      exact k _ (Same.refl H)
/-! ### the bent value -/
theorem cut_mem {xs : List V} {lo hi : Option Int} {x : V} (h : x ∈ cutV xs lo hi) : x ∈ xs := List.mem_of_mem_drop (List.mem_of_mem_take h)
theorem cut_len {xs : List V} {lo hi : Option Int} : (cutV xs lo hi).length ≤ xs.length := by
  unfold cutV
  rw [List.length_take, List.length_drop]
  omega
/-- a slice of a tuple: a tuple whose items are of it -/
theorem slice_t {K : PySem.W.Frag} {a : Addr} {xs : List V} {lo hi : Option Int} {H : Hp} {Q : VK} (e : H a = some (.tup xs))
    (k : ∀ (p : Addr) (H' : Hp) (ys : List V), Same H H' → H' p = some (.tup ys) → (∀ y ∈ ys, y ∈ xs) → ys.length ≤ xs.length → Q (.ref p) H') : rSlA K (.ref a) lo hi H Q :=
  ⟨a, xs, rfl, SqT.of e, fun _ => k a H xs (Same.refl H) e (fun _ h => h) (Nat.le_refl _), fun _ p hp => k p _ _ (Same.new (Same.refl H) hp) upd_same (fun _ h => cut_mem h) cut_len⟩
/-- two tuples in a row -/
theorem cat_t {K : PySem.W.Frag} {a b : Addr} {xs ys : List V} {H : Hp} {Q : VK} (e : H a = some (.tup xs)) (f : H b = some (.tup ys)) (l : xs.length + ys.length ≤ sizeLine)
    (k : ∀ (p : Addr) (H' : Hp), Same H H' → H' p = some (.tup (xs ++ ys)) → Q (.ref p) H') : rCatA K (.ref a) (.ref b) H Q := by
  refine ⟨a, b, xs, ys, rfl, rfl, SqT.of e, SqT.of f, l, fun c => ?_, fun c d => ?_, fun c d p hp => k p _ (Same.new (Same.refl H) hp) upd_same⟩
  · subst c
    exact k b H (Same.refl H) f
  · subst d
    refine k a H (Same.refl H) ?_
    rw [List.append_nil]
    exact e
def spBent : Sp := fun vs H Q _ => ∃ a xs j odd, vs = [.ref a, .int j, odd] ∧ H a = some (.tup xs) ∧ xs ≠ [] ∧ xs.length ≤ 8 ∧ (∀ x ∈ xs, El H x) ∧ El H odd ∧
  ∀ v t ys H', Same H H' → Sv H' v t ys → Q v H'
theorem ok_law_bent (T : Top K mg) : FnC P w K mg base CX0 1 (He.ga K "_law_bent") spBent := by
  refine fnc0 T.d__law_bent sc__law_bent (fun _ _ _ _ _ _ us hl => match us, hl with | [_, _, _], _ => rfl) (fun vs H Q E h => ?_) (fun cdv A outer s H vs Q E hr h => ?_)
  · obtain ⟨a, xs, j, odd, rfl, _⟩ := h
    rfl
  · obtain ⟨a, xs, j, odd, rfl, e, hne, hl, es, eo, k⟩ := h
    have l64 : 64 ≤ sizeLine := by decide
    refine ⟨_, (pss_cons (ps_set (i := 3) sc__law_bent.nd rfl (Or.inl rfl) (pe_op op_mod (pv 1) pe_int))
    (pss_cons (ps_if (pt_cmpR op_lt (pv 3) pe_int (nomark _)) (pss_one (ps_ret (pv 0))) pss_nil)
    (pss_cons (ps_if (pt_cmpR op_eq (pv 3) pe_int (nomark _)) (pss_one (ps_ret (pe_op (op_catA) (pv 0) (pe_tup (pa_cons (pv 2) pa_nil))))) pss_nil)
    (pss_cons (ps_if (pt_cmpR op_eq (pv 3) pe_int (nomark _)) (pss_one (ps_ret (pe_slice sl_tupA (pv 0) po_none (po_some (pe_un un_neg pe_int))))) pss_nil)
    (pss_cons (ps_if (pt_cmpR op_eq (pv 3) pe_int (nomark _)) (pss_one (ps_ret (pe_callTy call_list_of (by rfl) T.b_list (by decide +kernel) (pa_cons (pv 0) pa_nil)))) pss_nil)
    (pss_cons (ps_set (i := 4) sc__law_bent.nd rfl (Or.inl rfl) (pe_op op_mod (pe_op op_fdiv (pv 1) pe_int) (pe_callB call_len_seq (by rfl) T.b_len PySem.boot_len (pa_cons (pv 0) pa_nil))))
    (pss_one (ps_ret (pe_op (op_catA) (pe_op (op_catA) (pe_slice sl_tupA (pv 0) po_none (po_some (pv 4))) (pe_tup (pa_cons (pv 2) pa_nil))) (pe_slice sl_tupA (pv 0) (po_some (pe_op op_add (pv 4) pe_int)) po_none)))))))))), ?_⟩
    refine ⟨_, rfl, _, _, rfl, rfl, (by show (0 : Int) < 8; decide), _, rfl, _, _, rfl, rfl, _, rfl, ?_⟩
    refine ite2 (fun _ => ?_) (fun _ => ?_)
    · exact ⟨_, rfl, k _ true xs H (Same.refl H) ⟨a, rfl, e, by omega, es⟩⟩
    refine ⟨_, rfl, rfl, _, rfl, ?_⟩
    refine ite2 (fun _ => ?_) (fun _ => ?_)
    · refine ⟨_, rfl, _, rfl, (by show 1 ≤ sizeLine; decide), fun p hp => ?_⟩
      have s1 := Same.new (o := HO.tup [odd]) (Same.refl H) hp
      refine cat_t (s1 _ _ e) upd_same (by show xs.length + 1 ≤ sizeLine; omega) fun q H' s2 e2 => ?_
      refine k _ true _ H' (s1.trans s2) ⟨q, rfl, e2, by rw [List.length_append]; show xs.length + 1 ≤ 64; omega, fun x hx => ?_⟩
      rcases List.mem_append.mp hx with z | z
      · exact (es x z).same (s1.trans s2)
      · rw [List.mem_singleton.mp z]
        exact eo.same (s1.trans s2)
    refine ⟨_, rfl, rfl, _, rfl, ?_⟩
    refine ite2 (fun _ => ?_) (fun _ => ?_)
    · refine ⟨_, rfl, _, rfl, _, rfl, slice_t e fun p H' ys s1 e1 m1 l1 => ?_⟩
      exact k _ true ys H' s1 ⟨p, rfl, e1, by omega, fun x hx => (es x (m1 x hx)).same s1⟩
    refine ⟨_, rfl, rfl, _, rfl, ?_⟩
    refine ite2 (fun _ => ?_) (fun _ => ?_)
    · refine ⟨_, rfl, a, xs, rfl, .inr (SqT.of e), fun p hp => ?_⟩
      have s1 := Same.new (o := HO.lst xs) (Same.refl H) hp
      exact k _ false xs _ s1 ⟨p, rfl, upd_same, by omega, fun x hx => (es x hx).same s1⟩
    have hp0 : 0 < xs.length := List.length_pos_iff.mpr hne
    refine ⟨_, rfl, _, _, rfl, rfl, ⟨by decide, by decide⟩, _, rfl, a, xs, rfl, .inr (SqT.of e), _, _, rfl, rfl, (by omega), ?_⟩
    refine ⟨_, rfl, _, rfl, _, rfl, slice_t e fun p1 H1 ys1 s1 e1 m1 l1 => ?_⟩
    refine ⟨_, rfl, (by show 1 ≤ sizeLine; decide), fun p2 hp2 => ?_⟩
    have s2 := s1.trans (Same.new (o := HO.tup [odd]) (Same.refl H1) hp2)
    refine cat_t (by rw [upd_ne (ne_of_none e1 hp2)]; exact e1) upd_same (by show ys1.length + 1 ≤ sizeLine; omega) fun p3 H3 s3 e3 => ?_
    have s03 := s2.trans s3
    refine ⟨_, rfl, _, rfl, _, _, rfl, rfl, _, rfl, ?_⟩
    dsimp only [tNoPart]
    refine slice_t (s03 _ _ e) fun p4 H4 ys4 s4 e4 m4 l4 => ?_
    refine cat_t (s4 _ _ e3) e4 (by rw [List.length_append]; show ys1.length + 1 + ys4.length ≤ sizeLine; omega) fun p5 H5 s5 e5 => ?_
    have s05 := (s03.trans s4).trans s5
    refine k _ true _ H5 s05 ⟨p5, rfl, e5, by rw [List.length_append, List.length_append]; show ys1.length + 1 + ys4.length ≤ 64; omega, fun x hx => ?_⟩
    rcases List.mem_append.mp hx with z | z
    · rcases List.mem_append.mp z with z | z
      · exact (es x (m1 x z)).same s05
      · rw [List.mem_singleton.mp z]
        exact eo.same s05
    · exact (es x (m4 x z)).same s05
end
end Rb
namespace Rb
open PySem PySem.Spec PyProof.Rows L2
def refd : HO := .lst [V.str "refused", .bl true]
def spTold (K : PySem.W.Frag) : Sp := fun vs H Q _ => ∃ (act : Str) (p : Addr), vs = [.str act, .ref p] ∧
  ((act = "descriptor" ∧ ∃ a b c e, SqL K H p [a, b, c, e] ∧ El H a ∧ El H b ∧ El H c ∧ El H e ∧
    (∀ n, e = .int n → fitD a b c e = true → ∀ q, H q = none → Q (.ref q) (upd H q (.tup [a, b, c, .int (phI n), e]))) ∧ (fitD a b c e = false → ∀ q, H q = none → Q (.ref q) (upd H q refd))) ∨
   (act = "completion" ∧ ∃ a e, SqL K H p [a, e] ∧ El H a ∧ El H e ∧
    (∀ n, e = .int n → (isNum a 4 && isNat e) = true → ∀ q, H q = none → Q (.ref q) (upd H q (.tup [a, .str "done", .int (phI n)]))) ∧ ((isNum a 4 && isNat e) = false → ∀ q, H q = none → Q (.ref q) (upd H q refd))))
section
variable {P : Program} {w : World} {K : PySem.W.Frag} {mg : Str → Option Value} {base : Heap}
theorem ok_law_told (T : Top K mg) : FnC P w K mg base CX0 6 (He.ga K "_law_told") (spTold K) := by
  have G_descriptor := ok_descriptor (P := P) (w := w) (base := base) T
  have G_completion := ok_completion (P := P) (w := w) (base := base) T
  refine fnc0 T.d__law_told sc__law_told (fun _ _ _ _ _ _ us hl => match us, hl with | [_, _], _ => rfl) (fun vs H Q E h => ?_) (fun cdv A outer s H vs Q E hr h => ?_)
  · obtain ⟨act, p, rfl, _⟩ := h
    rfl
  · obtain ⟨act, p, rfl, h⟩ := h
    refine ⟨_, (pss_one (ps_try_as (i := 2) (Wout := fun _ _ _ _ => False) rfl rfl sc__law_told.nd rfl rfl ⟨rfl, by decide, .inl T.g_RingError⟩ takes0 (fun W pn xe tk _ => (pss_cons (ps_if (pt_cmpR op_eq (pv 0) pe_str (nomark _)) (pss_one (ps_ret (pe_fS G_descriptor hr (by decide) (by rfl) T.g_descriptor (fun σ => passAt tk σ) (pa_cons (pe_ix (r := rIxL K) ix_list (pv 1) pe_int (fun _ _ => rfl)) (pa_cons (pe_ix (r := rIxL K) ix_list (pv 1) pe_int (fun _ _ => rfl)) (pa_cons (pe_ix (r := rIxL K) ix_list (pv 1) pe_int (fun _ _ => rfl)) (pa_cons (pe_ix (r := rIxL K) ix_list (pv 1) pe_int (fun _ _ => rfl)) pa_nil))))))) pss_nil)
    (pss_one (ps_ret (pe_fS G_completion hr (by decide) (by rfl) T.g_completion (fun σ => passAt tk σ) (pa_cons (pe_ix (r := rIxL K) ix_list (pv 1) pe_int (fun _ _ => rfl)) (pa_cons (pe_ix (r := rIxL K) ix_list (pv 1) pe_int (fun _ _ => rfl)) pa_nil))))))) (fun a oe cls d pn hz hf => (pss_one (ps_ret (pe_lst (pa_cons pe_str (pa_cons (pe_isX T.xc_NotValid hz hf (by rfl) T.b_isinstance (by decide +kernel) (pa_cons (pv 2) (pa_cons (pe_glob (v := .ref (He.ga K "NotValid")) (by rfl) T.g_NotValid rfl) pa_nil))) pa_nil)))))))), ?_⟩
    refine ⟨_, rfl, rfl, _, rfl, ?_⟩
    rcases h with ⟨rfl, a, b, c, e, hq, ea, eb, ec, ee, k, ke⟩ | ⟨rfl, a, e, hq, ea, ee, k, ke⟩
    · refine ⟨_, rfl, p, _, _, _, rfl, rfl, hq, rfl, _, rfl, p, _, _, _, rfl, rfl, hq, rfl, _, rfl, p, _, _, _, rfl, rfl, hq, rfl, _, rfl, p, _, _, _, rfl, rfl, hq, rfl, ?_⟩
      refine ⟨a, b, c, e, rfl, ea, eb, ec, ee, k, fun z => ?_⟩
      refine ⟨true, T.exm_NotValid_RingError_T, fun _ x hx => ?_, fun q => nomatch q⟩
      exact ⟨rfl, rfl, _, rfl, _, _, _, rfl, fun u hu => hu, T.kit_NotValid_NotValid_T, by show 2 ≤ sizeLine; decide, ke z⟩
    · refine ⟨_, rfl, p, _, _, _, rfl, rfl, hq, rfl, _, rfl, p, _, _, _, rfl, rfl, hq, rfl, ?_⟩
      refine ⟨a, e, rfl, ea, ee, k, fun z => ?_⟩
      refine ⟨true, T.exm_NotValid_RingError_T, fun _ x hx => ?_, fun q => nomatch q⟩
      exact ⟨rfl, rfl, _, rfl, _, _, _, rfl, fun u hu => hu, T.kit_NotValid_NotValid_T, by show 2 ≤ sizeLine; decide, ke z⟩
end
def dRef : PyData := .list [.str "refused", .bool true]
theorem told_same {K : PySem.W.Frag} {H : Hp} {p q : Addr} {Q : Bool → Hp → Prop} (hp : H p = some refd) (hq : H q = some refd) (k : Q false H) :
    rNeD K (.ref p) (.ref q) H (fun x H' => ∃ c, x = .bl c ∧ Q c H') :=
  ne_same (d := dRef) (e := dRef) (.lst (SqL.of hp) (.cons (.str _) (.cons (.bl _) .nil))) (.lst (SqL.of hq) (.cons (.str _) (.cons (.bl _) .nil))) (by decide +kernel) (by decide +kernel) (by decide +kernel) k
theorem tape_at {ts : List Int} (h : TapeL 3780 ts) (j : Nat) : 0 ≤ ts[j]?.getD 0 ∧ ts[j]?.getD 0 < 1000 := by
  cases e : ts[j]? with
  | none => exact ⟨Int.le_refl _, by show (0 : Int) < 1000; decide⟩
  | some t => exact h.2 t (List.mem_of_getElem? e)
/-- an item by a number modulo the length -/
theorem pickV (t : Int) (n : Int) (xs : List V) (hl : (xs.length : Int) = n) (hn : 0 < n) : ∃ v ∈ xs, atI xs (t % n) = some v := by
  have h0 := Int.emod_nonneg t (Int.ne_of_gt hn)
  have h1 := Int.emod_lt_of_pos t hn
  obtain ⟨j, e⟩ : ∃ j : Nat, t % n = (j : Int) := ⟨(t % n).toNat, by omega⟩
  have hj : j < xs.length := by omega
  have hx : xs[j]? = some xs[j] := List.getElem?_eq_getElem hj
  exact ⟨_, List.mem_of_getElem? hx, by rw [e]; exact atI_n hx⟩
theorem pickI (t : Int) (n : Int) (xs : List Int) (hl : (xs.length : Int) = n) (hn : 0 < n) : ∃ v ∈ xs, atI (xs.map V.int) (t % n) = some (.int v) := by
  obtain ⟨v, hv, e⟩ := pickV t n (xs.map V.int) (by rw [List.length_map]; exact hl) hn
  obtain ⟨i, hi, rfl⟩ := List.mem_map.mp hv
  exact ⟨i, hi, e⟩
theorem isKind_two {s : Str} (h : isKind (.str s) = true) : s = "read" ∨ s = "write" := by
  have h' : ((("read" : Str) == s) || ((("write" : Str) == s) || false)) = true := h
  rw [Bool.or_false, Bool.or_eq_true] at h'
  rcases h' with q | q
  · exact .inl (eq_of_beq q).symm
  · exact .inr (eq_of_beq q).symm
theorem ok_read : PyData.strOk "read" = true := by decide +kernel
theorem ok_write : PyData.strOk "write" = true := by decide +kernel
theorem ok_done : PyData.strOk "done" = true := by decide +kernel
theorem ite_nd {x : V} {A B : Prop} (h : B) : if (!decide (x = x)) = true then A else B := by
  rw [if_neg (by simp)]
  exact h
theorem ixN_n {n j : Nat} (h : j < n) : ixN n (j : Int) = some j := by
  unfold ixN
  rw [if_pos (by omega), if_pos (by omega)]
  rfl
theorem lt4 {j : Nat} (h : j < 4) : j = 0 ∨ j = 1 ∨ j = 2 ∨ j = 3 := by omega
/-- the parts, one of them another -/
def Parts (H : Hp) (p : Addr) (N : Int) : Prop := ∃ a b c e, H p = some (.lst [a, b, c, e]) ∧ El H a ∧ El H b ∧ El H c ∧ El H e
/-- what fits: its parts -/
theorem fit_parts {a b c e : V} (h : fitD a b c e = true) : ∃ (i l n : Int) (s : Str), a = .int i ∧ b = .str s ∧ c = .int l ∧ e = .int n ∧ (s = "read" ∨ s = "write") ∧ isNum (.int i) 4 = true ∧ 0 ≤ n := by
  unfold fitD at h
  obtain ⟨h0, h4⟩ := Bool.and_eq_true_iff.mp h
  obtain ⟨h1, h23⟩ := Bool.and_eq_true_iff.mp h0
  obtain ⟨h2, h3⟩ := Bool.and_eq_true_iff.mp h23
  obtain ⟨i, rfl, _⟩ := isNum_int h1
  obtain ⟨s, rfl⟩ := isKind_str h2
  obtain ⟨l, rfl, _⟩ := isNum_int h3
  obtain ⟨n, rfl, hn⟩ := isNat_int h4
  exact ⟨i, l, n, s, rfl, rfl, rfl, rfl, isKind_two h2, h1, hn⟩
theorem desc_same {K : PySem.W.Frag} {H : Hp} {p q : Addr} {Q : Bool → Hp → Prop} {i l n m : Int} {s : Str} (hs : s = "read" ∨ s = "write") (hp : H p = some (.tup [.int i, .str s, .int l, .int m, .int n])) (hq : H q = some (.tup [.int i, .str s, .int l, .int m, .int n])) (k : Q false H) :
    rNeD K (.ref p) (.ref q) H (fun x H' => ∃ c, x = .bl c ∧ Q c H') := by
  have d : ∀ {p}, H p = some (.tup [.int i, .str s, .int l, .int m, .int n]) → Dp K H (.ref p) (.tuple [.int i, .str s, .int l, .int m, .int n]) := fun e => .tup (SqT.of e) (.cons (.int _) (.cons (.str _) (.cons (.int _) (.cons (.int _) (.cons (.int _) .nil)))))
  have sh : SeqAt.shaped (.tuple [.int i, .str s, .int l, .int m, .int n]) = true := by
    rcases hs with rfl | rfl <;> (simp only [SeqAt.shaped, PyData.canLay0, PyData.canLayAll0, PyData.depth, PyData.depthAll, ok_read, ok_write]; rfl)
  exact ne_same (d hp) (d hq) sh sh (SeqAt.eqv_refl _ (SeqAt.canLay_of_shaped sh)) k
theorem comp_same {K : PySem.W.Frag} {H : Hp} {p q : Addr} {Q : Bool → Hp → Prop} {i m : Int} (hp : H p = some (.tup [.int i, .str "done", .int m])) (hq : H q = some (.tup [.int i, .str "done", .int m])) (k : Q false H) :
    rNeD K (.ref p) (.ref q) H (fun x H' => ∃ c, x = .bl c ∧ Q c H') := by
  have d : ∀ {p}, H p = some (.tup [.int i, .str "done", .int m]) → Dp K H (.ref p) (.tuple [.int i, .str "done", .int m]) := fun e => .tup (SqT.of e) (.cons (.int _) (.cons (.str _) (.cons (.int _) .nil)))
  have sh : SeqAt.shaped (.tuple [.int i, .str "done", .int m]) = true := by
    simp only [SeqAt.shaped, PyData.canLay0, PyData.canLayAll0, PyData.depth, PyData.depthAll, ok_done]
    rfl
  exact ne_same (d hp) (d hq) sh sh (SeqAt.eqv_refl _ (SeqAt.canLay_of_shaped sh)) k
def spLaw (K : PySem.W.Frag) : Sp := fun vs H Q _ => ∃ (a : Addr) (ns : List Int), vs = [.ref a] ∧ SqL K H a (ns.map V.int) ∧ ns.length ≤ 63 ∧ ∀ H', Q (.bl true) H'
def dInts (l : List Int) : List PyData := l.map PyData.int
theorem dp_all {K : PySem.W.Frag} {H : Hp} : ∀ l : List Int, DpAll K H (l.map V.int) (dInts l)
  | [] => .nil
  | _ :: r => .cons (.int _) (dp_all r)
section
variable {P : Program} {w : World} {K : PySem.W.Frag} {mg : Str → Option Value} {base : Heap}
theorem ok_law (T : Top K mg) {fd : FuncData} (F : FunD K "law" "law" (defArgs s_law) (defBody s_law) (defScope s_law) [] [] (He.ga K "law") fd) : FnOk P w K mg base CX0 8 (He.ga K "law") fd ["script"] (spLaw K) := by
  have G_buffer_page := ok_buffer_page (P := P) (w := w) (base := base) T
  have G__law_tape := ok_law_tape (P := P) (w := w) (base := base) T
  have G__law_at := ok_law_at (P := P) (w := w) (base := base) T
  have G_slot_of := ok_slot_of (P := P) (w := w) (base := base) T
  have G_phase_of := ok_phase_of (P := P) (w := w) (base := base) T
  have G__law_phase := ok_law_phase (P := P) (w := w) (base := base) T
  have G__law_told := ok_law_told (P := P) (w := w) (base := base) T
  have G__law_fit := ok_law_fit (P := P) (w := w) (base := base) T
  have G_descriptor := ok_descriptor (P := P) (w := w) (base := base) T
  have G__law_bent := ok_law_bent (P := P) (w := w) (base := base) T
  have G__law_same := ok_law_same (P := P) (w := w) (base := base) T
  have G__law_new_descriptor := ok_law_new_descriptor (P := P) (w := w) (base := base) T
  have G_is_new_descriptor := ok_is_new_descriptor (P := P) (w := w) (base := base) T
  have G__law_new_completion := ok_law_new_completion (P := P) (w := w) (base := base) T
  have G_is_new_completion := ok_is_new_completion (P := P) (w := w) (base := base) T
  refine fnk0 F sc_law (fun vs H Q E h => ?_) (fun cdv A outer s H vs Q E hr h => ?_)
  · obtain ⟨a, ns, rfl, _⟩ := h
    rfl
  · obtain ⟨a, ns, rfl, hS, hlen, k⟩ := h
    have hu := hu_of hr
    have hu64 := hr.units
    refine ⟨_, (pss_cons (ps_if (PW.pt (pw_or (pt_cmpR (op_neD hu64) (pe_tup (pa_cons (pe_gc (by rfl) T.c_SLOTS) (pa_cons (pe_gc (by rfl) T.c_TAGS) (pa_cons (pe_gc (by rfl) T.c_SUBMISSIONS) (pa_cons (pe_gc (by rfl) T.c_COMPLETIONS) pa_nil))))) (pe_tup (pa_cons pe_int (pa_cons pe_int (pa_cons pe_int (pa_cons pe_int pa_nil))))) (nomark _)) (pw_or1 (pt_cmpR (op_neD hu64) (pe_lc (own := [("tag", 10)]) (g := gName 10) (tt := tYes) rfl sc_law.nd (pi_range1 (by rfl) T.b_range (pa_cons pe_int pa_nil)) (blkOk_by (N := ["script", "tape", "k", "number", "pick", "odd", "parts", "told", "other", "value", "tag"]) (sc := defScope s_law) (by decide +kernel)) (fun _ _ _ _ _ => (pg_name (i := 10) sc_law.nd rfl (Or.inl rfl))) (fun _ _ _ _ _ => pts_nil) (fun _ _ _ _ _ => (pe_f G_buffer_page hr (by decide) (by rfl) T.g_buffer_page pass0 (pa_cons (pv 10) pa_nil)))) (pe_lst (pa_cons pe_int (pa_cons pe_int (pa_cons pe_int (pa_cons pe_int pa_nil))))) (nomark _))))) (pss_one (ps_ret pe_bl)) pss_nil)
    (pss_cons (ps_set (i := 1) sc_law.nd rfl (Or.inl rfl) (pe_f G__law_tape hr (by decide) (by rfl) T.g__law_tape pass0 (pa_cons (pv 0) pa_nil)))
    (pss_cons (ps_for PassesOwn.never rfl (pi_range1 (by rfl) T.b_range (pa_cons (pe_callB (call_min2 rfl) (by rfl) T.b_min (by decide +kernel) (pa_cons pe_int (pa_cons (pe_op op_add pe_int (pe_op op_fdiv (pe_callB call_len_seq (by rfl) T.b_len PySem.boot_len (pa_cons (pv 1) pa_nil)) pe_int)) pa_nil))) pa_nil)) (pg_name (i := 2) sc_law.nd rfl (Or.inl rfl)) (pss_cons (ps_set (i := 3) sc_law.nd rfl (Or.inl rfl) (pe_op op_add (pe_op op_mul (pe_f G__law_at hr (by decide) (by rfl) T.g__law_at pass0 (pa_cons (pv 1) (pa_cons (pe_op op_mul pe_int (pv 2)) pa_nil))) (pe_ix ix_list (pe_lst (pa_cons pe_int (pa_cons pe_int (pa_cons pe_int pa_nil)))) (pe_op op_mod (pv 2) pe_int) (fun _ _ => rfl))) (pe_op op_mod (pe_f G__law_at hr (by decide) (by rfl) T.g__law_at pass0 (pa_cons (pv 1) (pa_cons (pe_op op_add (pe_op op_mul pe_int (pv 2)) pe_int) pa_nil))) pe_int)))
    (pss_cons (ps_set (i := 4) sc_law.nd rfl (Or.inl rfl) (pe_f G__law_at hr (by decide) (by rfl) T.g__law_at pass0 (pa_cons (pv 1) (pa_cons (pe_op op_add (pe_op op_mul pe_int (pv 2)) pe_int) pa_nil))))
    (pss_cons (ps_set (i := 5) sc_law.nd rfl (Or.inl rfl) (pe_ix ix_list (pe_lst (pa_cons (pe_un un_neg pe_int) (pa_cons pe_int (pa_cons pe_int (pa_cons pe_bl (pa_cons pe_non (pa_cons pe_str (pa_cons pe_str (pa_cons pe_int (pa_cons pe_int (pa_cons pe_str (pa_cons (pe_tup (pa_cons pe_int pa_nil)) (pa_cons pe_str pa_nil))))))))))))) (pe_op op_mod (pe_f G__law_at hr (by decide) (by rfl) T.g__law_at pass0 (pa_cons (pv 1) (pa_cons (pe_op op_add (pe_op op_mul pe_int (pv 2)) pe_int) pa_nil))) pe_int) (fun _ _ => rfl)))
    (pss_cons (ps_if (PW.pt (pw_or (pt_cmpR op_ne (pe_f G_slot_of hr (by decide) (by rfl) T.g_slot_of pass0 (pa_cons (pv 3) pa_nil)) (pe_op op_mod (pv 3) pe_int) (nomark _)) (pw_or1 (pt_cmpR op_ne (pe_f G_phase_of hr (by decide) (by rfl) T.g_phase_of pass0 (pa_cons (pv 3) pa_nil)) (pe_f G__law_phase hr (by decide) (by rfl) T.g__law_phase pass0 (pa_cons (pv 3) pa_nil)) (nomark _))))) (pss_one (ps_ret pe_bl)) pss_nil)
    (pss_cons (ps_set (i := 6) sc_law.nd rfl (Or.inl rfl) (pe_lst (pa_cons (pe_op op_mod (pv 4) pe_int) (pa_cons (pe_ix ix_list (pe_lst (pa_cons pe_str (pa_cons pe_str pa_nil))) (pe_op op_mod (pe_op op_fdiv (pv 4) pe_int) pe_int) (fun _ _ => rfl)) (pa_cons (pe_op op_mod (pe_op op_fdiv (pv 4) pe_int) pe_int) (pa_cons (pv 3) pa_nil))))))
    (pss_cons (ps_join (ps_if (pt_cmpR op_eq (pe_op op_mod (pv 4) pe_int) pe_int (nomark _)) (pss_one (ps_asg (pv 5) (pg_sub (pv 6) (pe_op op_mod (pe_op op_fdiv (pv 4) pe_int) pe_int) set_list))) pss_nil))
    (pss_cons (ps_join (ps_set (i := 7) sc_law.nd rfl (Or.inl rfl) (pe_f G__law_told hr (by decide) (by rfl) T.g__law_told pass0 (pa_cons pe_str (pa_cons (pv 6) pa_nil)))))
    (pss_cons (ps_join (ps_if (pt_not (pt_val (pe_f G__law_fit hr (by decide) (by rfl) T.g__law_fit pass0 (pa_cons (pv 6) pa_nil)))) (pss_cons (ps_if (pt_cmpR (op_neD hu64) (pv 7) (pe_lst (pa_cons pe_str (pa_cons pe_bl pa_nil))) (nomark _)) (pss_one (ps_ret pe_bl)) pss_nil)
    (pss_cons (ps_set (i := 6) sc_law.nd rfl (Or.inl rfl) (pe_lst (pa_cons pe_int (pa_cons pe_str (pa_cons pe_int (pa_cons (pv 3) pa_nil))))))
    (pss_one (ps_set (i := 7) sc_law.nd rfl (Or.inl rfl) (pe_f G_descriptor hr (by decide) (by rfl) T.g_descriptor passL (pa_cons pe_int (pa_cons pe_str (pa_cons pe_int (pa_cons (pv 3) pa_nil))))))))) pss_nil))
    (pss_cons (ps_if (pt_cmpR (op_neD hu64) (pv 7) (pe_tup (pa_cons (pe_ix ix_list (pv 6) pe_int (fun _ _ => rfl)) (pa_cons (pe_ix ix_list (pv 6) pe_int (fun _ _ => rfl)) (pa_cons (pe_ix ix_list (pv 6) pe_int (fun _ _ => rfl)) (pa_cons (pe_f G__law_phase hr (by decide) (by rfl) T.g__law_phase pass0 (pa_cons (pe_ix ix_list (pv 6) pe_int (fun _ _ => rfl)) pa_nil)) (pa_cons (pe_ix ix_list (pv 6) pe_int (fun _ _ => rfl)) pa_nil)))))) (nomark _)) (pss_one (ps_ret pe_bl)) pss_nil)
    (pss_cons (ps_set (i := 8) sc_law.nd rfl (Or.inl rfl) (pe_op op_add (pv 3) (pe_ix ix_list (pe_lst (pa_cons pe_int (pa_cons pe_int (pa_cons pe_int (pa_cons pe_int (pa_cons pe_int pa_nil)))))) (pe_op op_mod (pe_f G__law_at hr (by decide) (by rfl) T.g__law_at pass0 (pa_cons (pv 1) (pa_cons (pe_op op_add (pe_op op_mul pe_int (pv 2)) pe_int) pa_nil))) pe_int) (fun _ _ => rfl))))
    (pss_cons (ps_join (ps_set (i := 9) sc_law.nd rfl (Or.inl rfl) (pe_f G__law_bent hr (by decide) (by rfl) T.g__law_bent pass0 (pa_cons (pv 7) (pa_cons (pe_f G__law_at hr (by decide) (by rfl) T.g__law_at pass0 (pa_cons (pv 1) (pa_cons (pe_op op_add (pe_op op_mul pe_int (pv 2)) pe_int) pa_nil))) (pa_cons (pv 5) pa_nil))))))
    (pss_cons (ps_if (pt_not (pt_val (pe_f G__law_same hr (by decide) (by rfl) T.g__law_same pass0 (pa_cons (pe_f G_is_new_descriptor hr (by decide) (by rfl) T.g_is_new_descriptor pass0 (pa_cons (pv 9) (pa_cons (pv 8) pa_nil))) (pa_cons (pe_f G__law_new_descriptor hr (by decide) (by rfl) T.g__law_new_descriptor pass0 (pa_cons (pv 9) (pa_cons (pv 8) pa_nil))) pa_nil))))) (pss_one (ps_ret pe_bl)) pss_nil)
    (pss_cons (ps_join (ps_set (i := 7) sc_law.nd rfl (Or.inl rfl) (pe_f G__law_told hr (by decide) (by rfl) T.g__law_told pass0 (pa_cons pe_str (pa_cons (pe_lst (pa_cons (pe_ix ix_list (pv 6) pe_int (fun _ _ => rfl)) (pa_cons (pv 3) pa_nil))) pa_nil)))))
    (pss_cons (ps_if (PW.pt (pw_or (pt_cmpR (op_neD hu64) (pv 7) (pe_tup (pa_cons (pe_ix ix_list (pv 6) pe_int (fun _ _ => rfl)) (pa_cons pe_str (pa_cons (pe_f G__law_phase hr (by decide) (by rfl) T.g__law_phase pass0 (pa_cons (pv 3) pa_nil)) pa_nil)))) (nomark _)) (pw_or1 (pt_cmpR (op_neD hu64) (pe_f G__law_told hr (by decide) (by rfl) T.g__law_told pass0 (pa_cons pe_str (pa_cons (pe_lst (pa_cons pe_int (pa_cons pe_int pa_nil))) pa_nil))) (pe_lst (pa_cons pe_str (pa_cons pe_bl pa_nil))) (nomark _))))) (pss_one (ps_ret pe_bl)) pss_nil)
    (pss_cons (ps_if (pt_cmpR (op_neD hu64) (pe_f G__law_told hr (by decide) (by rfl) T.g__law_told pass0 (pa_cons pe_str (pa_cons (pe_lst (pa_cons pe_int (pa_cons (pe_un un_neg pe_int) pa_nil))) pa_nil))) (pe_lst (pa_cons pe_str (pa_cons pe_bl pa_nil))) (nomark _)) (pss_one (ps_ret pe_bl)) pss_nil)
    (pss_cons (ps_join (ps_set (i := 9) sc_law.nd rfl (Or.inl rfl) (pe_f G__law_bent hr (by decide) (by rfl) T.g__law_bent pass0 (pa_cons (pv 7) (pa_cons (pe_f G__law_at hr (by decide) (by rfl) T.g__law_at pass0 (pa_cons (pv 1) (pa_cons (pe_op op_add (pe_op op_mul pe_int (pv 2)) pe_int) pa_nil))) (pa_cons (pv 5) pa_nil))))))
    (pss_one (ps_if (pt_not (pt_val (pe_f G__law_same hr (by decide) (by rfl) T.g__law_same pass0 (pa_cons (pe_f G_is_new_completion hr (by decide) (by rfl) T.g_is_new_completion pass0 (pa_cons (pv 9) (pa_cons (pv 8) pa_nil))) (pa_cons (pe_f G__law_new_completion hr (by decide) (by rfl) T.g__law_new_completion pass0 (pa_cons (pv 9) (pa_cons (pv 8) pa_nil))) pa_nil))))) (pss_one (ps_ret pe_bl)) pss_nil)))))))))))))))))))
    (pss_one (ps_ret pe_bl))))), ?_⟩
    refine ⟨(by show 4 ≤ sizeLine; decide), fun p1 h1 => ⟨(by show 4 ≤ sizeLine; decide), fun p2 h2 => ?_⟩⟩
    have s1 := Same.new (o := HO.tup ([4, 4, 0, 1].map V.int)) (Same.refl H) h1
    have s2 := Same.new (o := HO.tup ([4, 4, 0, 1].map V.int)) s1 (s1.free h2)
    have n21 := (free_upd h2).1
    refine ne_same (d := .tuple (dInts [4, 4, 0, 1])) (e := .tuple (dInts [4, 4, 0, 1])) (.tup (SqT.of (by rw [upd_ne n21.symm, upd_same]; rfl)) (dp_all [4, 4, 0, 1])) (.tup (SqT.of upd_same) (dp_all [4, 4, 0, 1])) (by decide +kernel) (by decide +kernel) (by decide +kernel) ?_
    refine ⟨4, rfl, by decide, by decide, fun D hD => ?_⟩
    refine lc_range (n := 4) (fun j H4 => H4 D = some (.lst ((List.range j).map fun t : Nat => V.int ((0 : Int) + (t : Int) + 2))) ∧ Same H H4) ⟨upd_same, Same.new s2 (s2.free hD)⟩ ?_ ?_
    · rintro j H4 hj ⟨e4, s4⟩
      refine ⟨rfl, _, rfl, _, rfl, _, e4, ?_, ?_, fun b o hb => ?_⟩
      · rw [List.length_map, List.length_range]
        exact Nat.lt_trans hj (by decide)
      · rw [upd_same, List.range_succ, List.map_append]
        rfl
      · rw [upd_ne (ne_of_none hb (s2.free hD))]
        exact s4 b o hb
    rintro H4 ⟨e4, s4⟩
    refine ⟨(by show 4 ≤ sizeLine; decide), fun p3 h3 => ?_⟩
    have s5 := Same.new (o := HO.lst ([2, 3, 4, 5].map V.int)) s4 (s4.free h3)
    refine ne_same (d := .list (dInts [2, 3, 4, 5])) (e := .list (dInts [2, 3, 4, 5])) (.lst (SqL.of (by rw [upd_ne (ne_of_none e4 h3)]; exact e4)) (dp_all [2, 3, 4, 5])) (.lst (SqL.of upd_same) (dp_all [2, 3, 4, 5])) (by decide +kernel) (by decide +kernel) (by decide +kernel) ?_
    -- the tape
    refine ⟨_, rfl, a, ns, rfl, Same.seq s5 hS, hlen, fun tp H5 ts htp s6 e5 hT => ?_⟩
    have eL : ∀ {H'}, Same H5 H' → SqL K H' tp (ts.map V.int) := fun s => SqL.of (s _ _ e5)
    refine ⟨_, rfl, tp, _, rfl, .inl (eL (Same.refl _)), ?_⟩
    refine ⟨_, _, rfl, rfl, ⟨by decide, by decide⟩, _, _, rfl, rfl, 20, _, rfl, ?_⟩
    rw [List.length_map]
    generalize hn : (if (1 : Int) + (ts.length : Int) / 5 < 20 then (1 : Int) + (ts.length : Int) / 5 else 20) = n
    have hn1 : 0 ≤ n ∧ n ≤ 20 := by
      subst hn
      split <;> omega
    refine ⟨n, rfl, by omega, by omega, for_range (n := n.toNat) (fun i σ H1 => ∃ x2 x3 x4 x5 x6 x7 x8 x9 x10, σ = [some (.ref a), some (.ref tp), x2, x3, x4, x5, x6, x7, x8, x9, x10] ∧ Same H5 H1) ?_ ?_ ?_⟩
    · exact ⟨_, _, _, _, _, _, _, _, _, rfl, Same.refl _⟩
    · rintro i σ H1 hi ⟨x2, x3, x4, x5, x6, x7, x8, x9, x10, rfl, s1⟩
      -- number
      refine ⟨_, rfl, _, rfl, _, _, rfl, rfl, .inl ⟨by decide, by decide⟩, tp, ts, _, rfl, eL s1, (by omega), fun t1 ht1 => ?_⟩
      have b1 : 0 ≤ t1 ∧ t1 < 1000 := by rw [ht1]; exact tape_at hT _
      clear ht1
      refine ⟨(by show 3 ≤ sizeLine; decide), fun q1 f1 => ?_⟩
      have r1 := Same.new (o := HO.lst ([1, 1, 1000].map V.int)) s1 (s1.free f1)
      obtain ⟨m, hm, am⟩ := pickI (0 + (i : Int)) 3 [1, 1, 1000] rfl (by decide)
      have hm0 : 0 ≤ m := by
        simp at hm
        omega
      refine ⟨_, rfl, _, _, rfl, rfl, (by show (0 : Int) < 3; decide), q1, _, _, _, rfl, rfl, SqL.of upd_same, am, _, _, rfl, rfl, .inl ⟨by omega, by omega⟩, ?_⟩
      refine ⟨_, rfl, _, rfl, _, _, rfl, rfl, .inl ⟨by decide, by decide⟩, _, _, rfl, rfl, tp, ts, _, rfl, eL r1, (by omega), fun t2 ht2 => ?_⟩
      clear ht2
      refine ⟨_, _, rfl, rfl, (by show (0 : Int) < 9; decide), _, _, rfl, rfl, ?_⟩
      -- pick
      refine ⟨_, rfl, _, rfl, _, _, rfl, rfl, .inl ⟨by decide, by decide⟩, _, _, rfl, rfl, tp, ts, _, rfl, eL r1, (by omega), fun pk hpk => ?_⟩
      clear hpk
      -- odd
      refine ⟨_, rfl, (by show 1 ≤ sizeLine; decide), fun q2 f2 => ⟨(by show 12 ≤ sizeLine; decide), fun q3 f3 => ?_⟩⟩
      have r2 := Same.new (o := HO.tup [V.int 1]) r1 (r1.free f2)
      have r3 := Same.new (o := HO.lst [V.int (-1), .int 4, .int 8, .bl true, .non, .str "read", .str "done", .int 0, .int 1, .str "x", .ref q2, .str "other"]) r2 (r2.free f3)
      refine ⟨_, rfl, _, rfl, _, _, rfl, rfl, .inl ⟨by decide, by decide⟩, _, _, rfl, rfl, tp, ts, _, rfl, eL r3, (by omega), fun t3 ht3 => ?_⟩
      clear ht3
      obtain ⟨odd, hodd, aodd⟩ := pickV t3 12 [V.int (-1), .int 4, .int 8, .bl true, .non, .str "read", .str "done", .int 0, .int 1, .str "x", .ref q2, .str "other"] rfl (by decide)
      refine ⟨_, _, rfl, rfl, (by show (0 : Int) < 12; decide), q3, _, _, odd, rfl, rfl, SqL.of upd_same, aodd, ?_⟩
      have eodd : El (upd (upd (upd H1 q1 (HO.lst ([1, 1, 1000].map V.int))) q2 (HO.tup [V.int 1])) q3 (HO.lst [V.int (-1), .int 4, .int 8, .bl true, .non, .str "read", .str "done", .int 0, .int 1, .str "x", .ref q2, .str "other"])) odd := by
        simp at hodd
        rcases hodd with rfl | rfl | rfl | rfl | rfl | rfl | rfl | rfl | rfl | rfl | rfl | rfl <;> first | trivial | skip
        exact ⟨[V.int 1], by rw [upd_ne (free_upd f3).1.symm, upd_same]⟩
      clear aodd hodd
      -- slot, phase
      refine ⟨_, rfl, _, rfl, _, rfl, _, _, rfl, rfl, (by show (0 : Int) < 4; decide), rfl, _, rfl, ?_⟩
      refine ite_nd ?_
      refine ⟨_, rfl, _, rfl, _, rfl, _, rfl, fun q4 f4 => ?_⟩
      have r4 := r3.trans (Same.new (o := HO.lst [V.int 1, .int 0]) (Same.refl _) f4)
      have eo4 := eodd.same (Same.new (o := HO.lst [V.int 1, .int 0]) (Same.refl _) f4)
      refine ⟨rfl, _, rfl, ite_nd ?_⟩
      -- parts
      refine ⟨_, rfl, _, _, rfl, rfl, (by show (0 : Int) < 4; decide), ?_⟩
      refine ⟨(by show 2 ≤ sizeLine; decide), fun q5 f5 => ?_⟩
      have s5' := Same.new (o := HO.lst [V.str "read", .str "write"]) (Same.refl _) f5
      have r5 := r4.trans s5'
      have eo5 := eo4.same s5'
      obtain ⟨kd, hkd, akd⟩ := pickV (pk / 4) 2 [V.str "read", .str "write"] rfl (by decide)
      have ekd : ∀ H', El H' kd := fun H' => by
        simp at hkd
        rcases hkd with rfl | rfl <;> trivial
      refine ⟨_, rfl, _, _, rfl, rfl, ⟨by decide, by decide⟩, _, _, rfl, rfl, (by show (0 : Int) < 2; decide), q5, _, _, kd, rfl, rfl, SqL.of upd_same, akd, ?_⟩
      refine ⟨_, rfl, _, _, rfl, rfl, ⟨by decide, by decide⟩, _, _, rfl, rfl, (by show (0 : Int) < 8; decide), _, rfl, (by show 4 ≤ sizeLine; decide), fun q6 f6 => ?_⟩
      have s6' := Same.new (o := HO.lst [V.int (pk % 4), kd, .int (pk / 8 % 8), .int (t1 * m + t2 % 9)]) (Same.refl _) f6
      have r6 := r5.trans s6'
      have eo6 := eo5.same s6'
      have NN : 0 ≤ t1 * m + t2 % 9 := by
        have := Int.mul_nonneg b1.1 hm0
        omega
      -- if pick % 3 == 0
      refine ⟨fun σ' H' => Same H5 H' ∧ El H' odd ∧ (∃ a b c e, H' q6 = some (.lst [a, b, c, e]) ∧ El H' a ∧ El H' b ∧ El H' c ∧ El H' e) ∧
        ∃ x7 x8 x9 x10, σ' = [some (.ref a), some (.ref tp), some (.int (0 + (i : Int))), some (.int (t1 * m + t2 % 9)), some (.int pk), some odd, some (.ref q6), x7, x8, x9, x10], ?_, ?_⟩
      · refine ⟨_, rfl, _, _, rfl, rfl, (by show (0 : Int) < 3; decide), rfl, _, rfl, ?_⟩
        refine ite2 (fun _ => ?_) (fun _ => ?_)
        · refine ⟨_, rfl, _, rfl, _, rfl, _, _, rfl, rfl, ⟨by decide, by decide⟩, _, _, rfl, rfl, (by show (0 : Int) < 4; decide), ?_⟩
          obtain ⟨j, hj, ej⟩ : ∃ j : Nat, j < 4 ∧ pk / 3 % 4 = (j : Int) := ⟨(pk / 3 % 4).toNat, by omega, by omega⟩
          refine ⟨q6, _, _, j, rfl, rfl, upd_same, by rw [ej]; exact ixN_n hj, ?_⟩
          refine ⟨Same.put r6 (r5.free f6), El.put upd_same eo6, ?_, _, _, _, _, rfl⟩
          rcases lt4 hj with rfl | rfl | rfl | rfl
          · exact ⟨_, _, _, _, upd_same, El.put upd_same eo6, ekd _, trivial, trivial⟩
          · exact ⟨_, _, _, _, upd_same, trivial, El.put upd_same eo6, trivial, trivial⟩
          · exact ⟨_, _, _, _, upd_same, trivial, ekd _, El.put upd_same eo6, trivial⟩
          · exact ⟨_, _, _, _, upd_same, trivial, ekd _, trivial, El.put upd_same eo6⟩
        · exact ⟨r6, eo6, ⟨_, _, _, _, upd_same, trivial, ekd _, trivial, trivial⟩, _, _, _, _, rfl⟩
      rintro σ' H7 ⟨s7, eo7, ⟨pa, pb, pc, pe, e7, ea, eb, ec, ee⟩, y7, y8, y9, y10, rfl⟩
      -- told
      have f75 : H5 q6 = none := r5.free f6
      refine ⟨fun σ' H' => Same H5 H' ∧ El H' odd ∧ (∃ q7 pa pb pc pe x8 x9 x10, σ' = [some (.ref a), some (.ref tp), some (.int (0 + (i : Int))), some (.int (t1 * m + t2 % 9)), some (.int pk), some odd, some (.ref q6), some (.ref q7), x8, x9, x10] ∧
        H' q6 = some (.lst [pa, pb, pc, pe]) ∧ El H' pa ∧ El H' pb ∧ El H' pc ∧ El H' pe ∧ H' q7 = some (if fitD pa pb pc pe then .tup [pa, pb, pc, .int (phI (match pe with | .int n => n | _ => 0)), pe] else refd)), ?_, ?_⟩
      · refine ⟨_, rfl, "descriptor", q6, rfl, .inl ⟨rfl, pa, pb, pc, pe, SqL.of e7, ea, eb, ec, ee, fun n hn hf q7 f7 => ?_, fun hf q7 f7 => ?_⟩⟩
        · subst hn
          have s8' := Same.new (o := HO.tup [pa, pb, pc, .int (phI n), .int n]) (Same.refl H7) f7
          exact ⟨s7.trans s8', eo7.same s8', q7, pa, pb, pc, .int n, _, _, _, rfl, s8' _ _ e7, ea.same s8', eb.same s8', ec.same s8', ee.same s8', by rw [hf, if_pos rfl, upd_same]⟩
        · have s8' := Same.new (o := refd) (Same.refl H7) f7
          exact ⟨s7.trans s8', eo7.same s8', q7, pa, pb, pc, pe, _, _, _, rfl, s8' _ _ e7, ea.same s8', eb.same s8', ec.same s8', ee.same s8', by rw [hf, if_neg (by decide), upd_same]⟩
      clear s7 eo7 e7 ea eb ec ee
      rintro σ' H7 ⟨s7, eo7, q7, pa, pb, pc, pe, x8, x9, x10, rfl, e7, ea, eb, ec, ee, e8⟩
      -- if not fit
      refine ⟨fun σ' H' => Same H5 H' ∧ El H' odd ∧ (∃ i1 l1 n1 sk q6 q7, H' q6 = some (.lst [.int i1, .str sk, .int l1, .int n1]) ∧ (sk = "read" ∨ sk = "write") ∧ isNum (.int i1) 4 = true ∧ H' q7 = some (.tup [.int i1, .str sk, .int l1, .int (phI n1), .int n1]) ∧
          ∃ x8 x9 x10, σ' = [some (.ref a), some (.ref tp), some (.int (0 + (i : Int))), some (.int (t1 * m + t2 % 9)), some (.int pk), some odd, some (.ref q6), some (.ref q7), x8, x9, x10]), ?_, ?_⟩
      · refine ⟨_, rfl, q6, _, _, _, _, rfl, .inl (SqL.of e7), ea, eb, ec, ee, fun H8 s8 => ⟨_, rfl, ?_⟩⟩
        cases hf : fitD pa pb pc pe
        · -- it does not: refused, and another
          rw [hf, if_neg (by decide)] at e8
          refine ⟨_, rfl, (by show 2 ≤ sizeLine; decide), fun q9 f9 => ?_⟩
          have s9' := Same.new (o := refd) (Same.refl H8) f9
          refine told_same (s9' _ _ (s8 _ _ e8)) upd_same ?_
          refine ⟨_, rfl, (by show 4 ≤ sizeLine; decide), fun q10 f10 => ?_⟩
          have s10' := Same.new (o := HO.lst [V.int 1, .str "read", .int 2, .int (t1 * m + t2 % 9)]) s9' (s9'.free f10)
          have hfit : fitD (.int 1) (.str "read") (.int 2) (.int (t1 * m + t2 % 9)) = true := by
            show (((decide ((0 : Int) ≤ 1) && decide ((1 : Int) < 4)) && (isKind (.str "read") && (decide ((0 : Int) ≤ 2) && decide ((2 : Int) < 8)))) && decide (0 ≤ t1 * m + t2 % 9)) = true
            rw [decide_eq_true NN]
            rfl
          refine ⟨_, rfl, .int 1, .str "read", .int 2, .int (t1 * m + t2 % 9), rfl, trivial, trivial, trivial, trivial, fun n hn _ q11 f11 => ?_, fun z => ?_⟩
          · injection hn with hn
            subst hn
            have s11' := Same.new (o := HO.tup [V.int 1, .str "read", .int 2, .int (phI (t1 * m + t2 % 9)), .int (t1 * m + t2 % 9)]) s10' (s10'.free f11)
            refine ⟨(s7.trans s8).trans s11', (eo7.same s8).same s11', 1, 2, t1 * m + t2 % 9, "read", q10, q11, ?_, .inl rfl, by decide, upd_same, _, _, _, rfl⟩
            rw [upd_ne (ne_of_none upd_same f11), upd_same]
          · rw [hfit] at z
            cases z
        · rw [hf, if_pos rfl] at e8
          obtain ⟨i1, l1, n1, sk, rfl, rfl, rfl, rfl, hk, hi4, hn0⟩ := fit_parts hf
          exact ⟨s7.trans s8, eo7.same s8, i1, l1, n1, sk, q6, q7, s8 _ _ e7, hk, hi4, s8 _ _ e8, _, _, _, rfl⟩
      clear s7 eo7 e7 ea eb ec ee e8
      rintro σ' H7 ⟨s7, eo7, i1, l1, n1, sk, q6, q7, e7, hk, hi4, e8, x8, x9, x10, rfl⟩
      have ixq : ∀ {H'}, Same H7 H' → SqL K H' q6 [.int i1, .str sk, .int l1, .int n1] := fun s => SqL.of (s _ _ e7)
      refine ⟨_, rfl, _, rfl, q6, _, _, _, rfl, rfl, ixq (Same.refl _), rfl, _, rfl, q6, _, _, _, rfl, rfl, ixq (Same.refl _), rfl, _, rfl, q6, _, _, _, rfl, rfl, ixq (Same.refl _), rfl, _, rfl, q6, _, _, _, rfl, rfl, ixq (Same.refl _), rfl, _, rfl, fun q9 f9 => ?_⟩
      have s9 := Same.new (o := HO.lst [V.int 1, .int 0]) (Same.refl H7) f9
      refine ⟨_, rfl, q6, _, _, _, rfl, rfl, ixq s9, rfl, (by show 5 ≤ sizeLine; decide), fun q10 f10 => ?_⟩
      have s10 := Same.new (o := HO.tup [.int i1, .str sk, .int l1, .int (phI n1), .int n1]) s9 (s9.free f10)
      refine desc_same hk (s10 _ _ e8) upd_same ?_
      -- other
      refine ⟨_, rfl, (by show 5 ≤ sizeLine; decide), fun q11 f11 => ?_⟩
      have s11 := Same.new (o := HO.lst ([0, 0, 4, 8, 1].map V.int)) s10 (s10.free f11)
      refine ⟨_, rfl, _, rfl, _, _, rfl, rfl, .inl ⟨by decide, by decide⟩, _, _, rfl, rfl, tp, ts, _, rfl, eL (s7.trans s11), (by omega), fun t4 ht4 => ?_⟩
      clear ht4
      obtain ⟨ad, had, aad⟩ := pickI t4 5 [0, 0, 4, 8, 1] rfl (by decide)
      refine ⟨_, _, rfl, rfl, (by show (0 : Int) < 5; decide), q11, _, _, _, rfl, rfl, SqL.of upd_same, aad, _, _, rfl, rfl, ?_⟩
      -- value
      refine ⟨fun σ' H' => Same H5 H' ∧ Same H7 H' ∧ El H' odd ∧ (∃ v t xs x10, Sv H' v t xs ∧ σ' = [some (.ref a), some (.ref tp), some (.int (0 + (i : Int))), some (.int (t1 * m + t2 % 9)), some (.int pk), some odd, some (.ref q6), some (.ref q7), some (.int (t1 * m + t2 % 9 + ad)), some v, x10]), ?_, ?_⟩
      · refine ⟨_, rfl, _, rfl, _, rfl, _, _, rfl, rfl, .inl ⟨by decide, by decide⟩, _, _, rfl, rfl, tp, ts, _, rfl, eL (s7.trans s11), (by omega), fun t5 ht5 => ?_⟩
        refine ⟨_, rfl, q7, _, _, odd, rfl, s11 _ _ e8, (fun z => nomatch z), (by show 5 ≤ 8; decide), fun x hx => ?_, eo7.same s11, fun v t ys H8 s8 hv => ?_⟩
        · simp at hx
          rcases hx with rfl | rfl | rfl | rfl | rfl <;> trivial
        · exact ⟨(s7.trans s11).trans s8, s11.trans s8, (eo7.same s11).same s8, v, t, ys, _, hv, rfl⟩
      rintro σ' H8 ⟨s58, s78, eo8, v, t, xs, z10, hv, rfl⟩
      -- the same
      refine ⟨_, rfl, _, rfl, v, t, xs, _, rfl, hv, ?_⟩
      refine ⟨_, rfl, _, rfl, v, t, xs, _, rfl, hv, fun H9 s89 => ?_⟩
      refine ⟨_, _, rfl, _, rfl, ?_⟩
      refine ite_nd ?_
      -- the completion
      have s79 : Same H7 H9 := s78.trans s89
      have s59 : Same H5 H9 := s58.trans s89
      have eo9 := eo8.same s89
      refine ⟨fun σ' H' => Same H5 H' ∧ Same H7 H' ∧ El H' odd ∧ (∃ q7 x9 x10, H' q7 = some (.tup [.int i1, .str "done", .int (phI (t1 * m + t2 % 9))]) ∧ σ' = [some (.ref a), some (.ref tp), some (.int (0 + (i : Int))), some (.int (t1 * m + t2 % 9)), some (.int pk), some odd, some (.ref q6), some (.ref q7), some (.int (t1 * m + t2 % 9 + ad)), x9, x10]), ?_, ?_⟩
      · refine ⟨_, rfl, q6, _, _, _, rfl, rfl, ixq s79, rfl, _, rfl, (by show 2 ≤ sizeLine; decide), fun q12 f12 => ?_⟩
        have s12 := Same.new (o := HO.lst [V.int i1, .int (t1 * m + t2 % 9)]) (Same.refl H9) f12
        have hfit : (isNum (.int i1) 4 && isNat (.int (t1 * m + t2 % 9))) = true := by
          rw [hi4]
          exact decide_eq_true NN
        refine ⟨"completion", q12, rfl, .inr ⟨rfl, _, _, SqL.of upd_same, trivial, trivial, fun n hn _ q13 f13 => ?_, fun z => ?_⟩⟩
        · injection hn with hn
          subst hn
          have s13 := Same.new (o := HO.tup [.int i1, .str "done", .int (phI (t1 * m + t2 % 9))]) s12 (s12.free f13)
          exact ⟨s59.trans s13, s79.trans s13, eo9.same s13, q13, _, _, upd_same, rfl⟩
        · rw [hfit] at z
          cases z
      clear s58 s78 s89 s79 s59 eo8 eo9 eo7
      rintro σ' H9 ⟨s59, s79, eo9, q12, x9, z10, e12, rfl⟩
      refine ⟨_, rfl, _, rfl, q6, _, _, _, rfl, rfl, ixq s79, rfl, _, rfl, _, rfl, fun q13 f13 => ?_⟩
      have s13 := Same.new (o := HO.lst [V.int 1, .int 0]) (Same.refl H9) f13
      refine ⟨(by show 3 ≤ sizeLine; decide), fun q14 f14 => ?_⟩
      have s14 := Same.new (o := HO.tup [.int i1, .str "done", .int (phI (t1 * m + t2 % 9))]) s13 (s13.free f14)
      refine comp_same (s14 _ _ e12) upd_same ?_
      refine ⟨(by show 2 ≤ sizeLine; decide), fun q15 f15 => ?_⟩
      have s15 := Same.new (o := HO.lst [V.int 4, .int 0]) s14 (s14.free f15)
      refine ⟨"completion", q15, rfl, .inr ⟨rfl, _, _, SqL.of upd_same, trivial, trivial, fun _ _ z => (by cases z), fun _ q16 f16 => ?_⟩⟩
      have s16 := Same.new (o := refd) s15 (s15.free f16)
      refine ⟨(by show 2 ≤ sizeLine; decide), fun q17 f17 => ?_⟩
      have s17 := Same.new (o := refd) s16 (s16.free f17)
      refine told_same (by rw [upd_ne (free_upd f17).1.symm, upd_same]) upd_same ?_
      -- with -1
      refine ⟨_, rfl, (by show 2 ≤ sizeLine; decide), fun q18 f18 => ?_⟩
      have s18 := Same.new (o := HO.lst [V.int 0, .int (-1)]) s17 (s17.free f18)
      refine ⟨"completion", q18, rfl, .inr ⟨rfl, _, _, SqL.of upd_same, trivial, trivial, fun _ _ z => (by cases z), fun _ q19 f19 => ?_⟩⟩
      have s19 := Same.new (o := refd) s18 (s18.free f19)
      refine ⟨(by show 2 ≤ sizeLine; decide), fun q20 f20 => ?_⟩
      have s20 := Same.new (o := refd) s19 (s19.free f20)
      refine told_same (by rw [upd_ne (free_upd f20).1.symm, upd_same]) upd_same ?_
      -- the value
      refine ⟨fun σ' H' => Same H5 H' ∧ (∃ v t xs x10, Sv H' v t xs ∧ σ' = [some (.ref a), some (.ref tp), some (.int (0 + (i : Int))), some (.int (t1 * m + t2 % 9)), some (.int pk), some odd, some (.ref q6), some (.ref q12), some (.int (t1 * m + t2 % 9 + ad)), some v, x10]), ?_, ?_⟩
      · refine ⟨_, rfl, _, rfl, _, rfl, _, _, rfl, rfl, .inl ⟨by decide, by decide⟩, _, _, rfl, rfl, tp, ts, _, rfl, eL (s59.trans s20), (by omega), fun t5 ht5 => ?_⟩
        refine ⟨_, rfl, q12, _, _, odd, rfl, s20 _ _ e12, (fun z => nomatch z), (by show 3 ≤ 8; decide), fun x hx => ?_, eo9.same s20, fun v t ys H10 s10 hv => ?_⟩
        · simp at hx
          rcases hx with rfl | rfl | rfl <;> trivial
        · exact ⟨(s59.trans s20).trans s10, v, t, ys, _, hv, rfl⟩
      rintro σ' H10 ⟨s510, v, t, xs, z10, hv, rfl⟩
      refine ⟨_, rfl, _, rfl, v, t, xs, _, rfl, hv, ?_⟩
      refine ⟨_, rfl, _, rfl, v, t, xs, _, rfl, hv, fun H11 s1011 => ?_⟩
      refine ⟨_, _, rfl, _, rfl, ite_nd ?_⟩
      exact ⟨_, _, _, _, _, _, _, _, _, rfl, s510.trans s1011⟩
    · rintro σ H1 ⟨x2, x3, x4, x5, x6, x7, x8, x9, x10, rfl, s1⟩
      exact k _
end
end Rb
namespace Rb
open PySem PySem.Spec PyProof.Rows L2
abbrev R : PySem.W.OpenRow := PySem.W.OpenLaw.row PySem.Challenge.rw_ringbound_k04_rings
abbrev hk : PySem.W.Hook := hookR 4 fa fn ts exs
def ob (s : PySem.W.SharedT) : AlR := obsR 4 fa fn ts exs (HandSHeadRun.getT s)
theorem ob_eq (s : PySem.W.SharedT) : ob s = hk.obs s.abs := obsR_eq (HandSHeadRun.getT_eq s)
theorem run0 (w : World) : HandSHeadRun.RunEq R (PySem.W.view R.prog [lawAt]) hk ob 4000 loose (w.withFollow "special-get-raises" false) := by
  intro os
  kernel_rfl
theorem run1 (w : World) : HandSHeadRun.RunEq R (PySem.W.view R.prog [lawAt]) hk ob 4000 loose (w.withFollow "special-get-raises" true) := by
  intro os
  kernel_rfl
theorem run (w : World) : HandSHeadRun.RunEq R (PySem.W.view R.prog [lawAt]) hk ob 4000 loose w := PySem.W.byRow2 "special-get-raises" run0 run1 w
end Rb
namespace Rb
open PySem PySem.Spec PyProof.Rows L2
theorem facts {P : Program} {w : World} {K : PySem.W.Frag} {h : Heap} {mg : Str → Option Value} {f : Addr} (X : K.In h) (G : h.Ns mainGlobals mg) (hfa : mg ("law" : Str) = some (.ref f)) (c : SaysR fa fn ts exs w K) :
    ∃ fd : FuncData, (∀ (s : Shared) (v : Value), BindsTo s fd ⟨[v], []⟩ [("script", v)]) ∧ ∀ base : Heap, K.In base → base.Ns mainGlobals mg → FnOk P w K mg base CX0 8 f fd ["script"] (spLaw K) := by
  have T := top_of X G c
  obtain ⟨fd, F⟩ := T.d_law
  have e := hfa.symm.trans T.g_law
  cases e
  have b := FunD.bindsA (ps := ["script"]) F fun _ _ _ _ _ _ us hl => match us, hl with | [_], _ => rfl
  exact ⟨fd, fun s v => b s [v] rfl, fun base _ _ => ok_law T F⟩
end Rb
open PySem PySem.W PySem.Calls PyProof.Rows
theorem PySem.Challenge.cw_ringbound_k04_rings_holds : PySem.Challenge.rw_ringbound_k04_rings.Holds := by
  w_on; o_law
  refine HandSHeadRun.head_any (r := OpenLaw.row PySem.Challenge.rw_ringbound_k04_rings) (q := view (OpenLaw.row PySem.Challenge.rw_ringbound_k04_rings).prog [Rb.lawAt]) (H := Rb.hk) (ob := Rb.ob) (M := 4000) (loose := Rb.loose)
    (d := HandSHeadRun.topDef (OpenLaw.row PySem.Challenge.rw_ringbound_k04_rings).prog Rb.lawAt) (kwd := []) Rb.ob_eq
    (by kernel_rfl) (fun s => by kernel_rfl) Rb.run (by kernel_rfl) (by kernel_rfl) (by kernel_rfl) (by rfl) (by first | assumption | decide +kernel) (by decide +kernel) ⟨rfl, rfl, rfl, rfl, rfl, by decide +kernel⟩ ?hw ?hc
  case hw => w_witness2
  case hc =>
    refine L2.walk_ofE (l := PySem.Challenge.rw_ringbound_k04_rings) (n := 63) (k := 8) (x := "script") (CX := L2.CX0) rfl (by decide) (by kernel_rfl) ⟨rfl, by decide, by decide⟩ ?F (fun _ _ _ _ z => z)
    intro w mg fa h Y G hmg0
    obtain ⟨K, KX, c⟩ := Y
    have hmg : mg ("law" : PySem.Str) = some (.ref fa) := by
      have e : (HandSHeadRun.topDef (OpenLaw.row PySem.Challenge.rw_ringbound_k04_rings).prog Rb.lawAt).name = ("law" : PySem.Str) := by kernel_rfl
      rw [← e]
      exact hmg0
    obtain ⟨fd, hb, hF⟩ := Rb.facts (P := (PySem.Challenge.rw_ringbound_k04_rings).prog) (w := w) KX G hmg c
    exact ⟨K, fd, Rb.spLaw K, KX, hb, fun H a ns hl _ hS => ⟨a, ns, rfl, hS, hl, fun _ => rfl⟩, hF⟩
