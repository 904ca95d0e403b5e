import PyProof.Rows.All
import Wide.All
import OpenK.AllK
import Wide.FinOn
import HandS.ForMost
import HandS.ForExc
import HandS.ExcInit
import HandS.ExcIs
import HandS.IsInst
import HandS.Steps
import HandS.TupMul
import HandS.TupAny
import HandS.SortInts
import HandS.Defaults
import HandS.HeadHook3
import HandS.HeadHook4
import HandS.HeadEnd
import HandS.Head2
import KE.KUnpackStar
import HandS.Zip
import KE.GoesMore
import KE.GoesZip
import KE.KTurns
import HandS.HeadHook2
import PyProof.TypeEq
import HandS.Star
import HandS.Flow
import HandS.Style
import HandS.MethStar
import HandS.Iter
import HandS.Conv
import PySem.Challenge.RW_ringbound_k18_drivers_step_by_step
set_option Elab.async false
set_option linter.all false
set_option maxRecDepth 100000
set_option maxHeartbeats 0
/-! The layer of this program: rules that the hand layer lacks. -/
namespace Rb
open PySem PySem.Spec PyProof.Rows L2

section
variable {X : Cx} {x m : Str} {C f : Addr} {CX : CXT} {k : Nat} {fd : FuncData} {ps : List Str} {sp : Sp} {ds : List Value} {dvs : List V} {E : XK}
  {e : Expr} {es : List Expr} {t : TA} {p1 p2 pos : Pos} {mc : Value}

/-- what is read of a class: the function that stands under a name -/
structure ClsFn (K : PySem.W.Frag) (C : Addr) (mc : Value) (m : Str) (f : Addr) : Prop where
  rd : PySem.W.readsIn K C mc = true
  ga : PySem.W.specialIn K (.ref C) "__getattribute__" = some (some (.builtin "type.__getattribute__"))
  fn : PySem.W.findCls K (.ref C) mc m = some (.val (.ref f))
  kp : PySem.W.keepIn K (.ref f) = true

/-- Base.m(e, ..): a def called off its class -/
theorem pe_clsfn {pl : Sem Bool} (c : ClsFn X.K C mc m f) (F : FnOk X.prog X.w X.K X.mg X.base CX k f fd ps sp) (hr : Room k X.A)
    (hg : Gl X x) (hm : X.mg x = some (.ref C)) (hb : Binds X.K fd ps ds) (hd : Vals dvs ds) (hx : Passes CX X E) (hP : PA X (e :: es) t)
    (hc : eval (.Call (.Attribute (.Name x p1) m p2) (e :: es) [] pos) X.env = (do
      let ov ← eval (.Name x p1) X.env
      standAt p2.atName
      let (g, first) ← holding [ov] (getMethod ov m pl)
      callWith pos g first (backTo pos (starEach (e :: es) X.env)) (backToKw pos (keywordEach [] X.env))) := by rfl)
    (hs1 : starEach (e :: es) X.env = (false, eval e X.env) :: starEach es X.env := by rfl)
    (hs2 : (backTo pos (starEach es X.env)).any (·.1) = false := by rfl) (hdb : (x == ("__debug__" : Str)) = false := by decide) :
    PE X (.Call (.Attribute (.Name x p1) m p2) (e :: es) [] pos) (tCall sp dvs E t) := by
  refine ⟨fun pins s σ H Q I hw => ?_⟩
  refine PySem.W.methodCall_KW (ld_glob I hg hm ?_ hdb) hc
  refine PySem.W.method_cls I.kIn c.ga ?_
  refine PySem.W.cls_value I.kIn c.rd c.fn rfl ?_
  refine PySem.W.callWith_K (h₀ := X.base) I.ok.mod.kin c.kp ?_ hs1 hs2
  refine thn (hP.run pos pins _ σ H _ (I.tok _) hw) fun us s1 hh => ?_
  obtain ⟨vs, H1, I1, r, q⟩ := hh
  exact ⟨I1.kIn, run_fn F hr hb hd hx I1 r q⟩
end

/-! ### an exception whose __init__ leaves nothing -/
section
variable {X : Cx} {pins : List (Addr × Obj)} {σ : L2.St}
theorem bare_end {H1 : Hp} {hp hp2 h2 : Heap} {g1 g2 : Array GenState} {d1 d2 : Drawn} {t1 t2 : Nat} {os1 os2 : OsState} {a C : Addr}
    (I1 : Inv X pins σ H1 ⟨hp, g1, d1, t1, os1⟩) (ha : hp.objs.size ≤ a) (kk : ∀ b o, hp.get? b = some o → hp2.get? b = some o)
    (un : Un (frs X.stack) [] (upd H1 a (exo a C none)) (upd H1 a (exo a C none)) hp2 h2)
    (hok : HOk X.prog X.w (upd H1 a (exo a C none)) h2) (ho : os2 = os1) (hb : AllBare g2) :
    ∃ (t0 : Addr) (G : Heap), Inv X pins σ H1 ⟨G, g2, d2, t2, os2⟩ ∧ (∀ b o, G.get? b = some o → h2.get? b = some o) ∧
      G.get? a = none ∧ H1 a = none ∧
      h2.get? a = some ({ cls := .ref C, dict := none, data := .fields #[.ref t0, .none, .none, .none, .bool false, .none] } : Obj) := by
  have na : H1 a = none := I1.hok.fresh ha
  have ea : upd H1 a (exo a C none) a = some (exo a C none) := upd_same
  obtain ⟨t0, hoe⟩ := exo_at hok ea
  obtain ⟨G, gin, gout⟩ := restrict h2 fun b => decide (b ≠ a)
  have gk : ∀ b, b ≠ a → G.get? b = h2.get? b := fun b q => gin b (decide_eq_true q)
  have ge : G.get? a = none := gout a (by simp)
  have old : ∀ {b : Addr} {o : Obj}, hp.get? b = some o → b ≠ a := fun z => Nat.ne_of_lt (Nat.lt_of_lt_of_le (Heap.lt_size z) ha)
  have trk : ∀ {b : Addr} {o : HO}, H1 b = some o → b ≠ a := fun {b o} z q => by
    rw [q, na] at z
    cases z
  have U : Un (frs X.stack) [] H1 H1 hp G := by
    constructor
    · intro b o z n q1 q2
      rw [gk b (old z)]
      exact un.keep b o (kk b o z) (by rw [upd_ne (old z)]; exact n) q1 q2
    · intro b o z n q1 q2
      rw [gk b (old z)]
      exact un.slot b o (kk b o z) (by rw [upd_ne (old z)]; exact n) q1 q2
    · intro b o z n q2
      exact n
    · intro b o z q2
      rw [gk b (old z)]
      exact un.there b o (kk b o z) q2
    · intro b xs z
      exact z
    · intro b o u z
      exact z
    · intro b ps z
      exact ⟨#[], by rw [z]; simp⟩
  have ok3 : HOk X.prog X.w H1 G := by
    intro b o z
    have nb := trk z
    have y := hok b o (by rw [upd_ne nb]; exact z)
    refine y.stay (fun c v hc r => ?_) (fun c r => ?_) (fun c xs r => ?_)
    · have nc : c ≠ a := by
        rcases hc with q | q
        · rw [q]
          exact nb
        · exact at_ne ea q exo_own
      rw [gk c nc]
      exact r
    · rw [upd_ne (at_ne ea r exo_own)] at r
      exact r
    · rw [upd_ne (at_ne ea r exo_tup)] at r
      exact r
  have J : Inv X pins σ H1 ⟨G, g2, d2, t2, os2⟩ := I1.call' (ch := []) ho U ok3 hb (fun b z => absurd z (by simp))
  refine ⟨t0, G, J, fun b o z => ?_, ge, na, hoe⟩
  by_cases q : b = a
  · rw [q, ge] at z
    cases z
  · rw [← gk b q]
    exact z

/-- C() where C's __init__ does no more than its base's -/
theorem pmk_bare0 {CX : CXT} {x : Str} {C fI : Addr} {k : Nat} {fd : FuncData} {ps : List Str} {sp : Sp} {pos p : Pos} (T : OexC X.K C)
    (iC : PySem.W.findIn X.K (.ref C) "__init__" = some (some (.ref fI))) (tI : PySem.W.typeIn X.K (.ref fI) = some (.type "function"))
    (F1 : FnOk X.prog X.w X.K X.mg X.base CX k fI fd ps sp) (hr : Room (k + 1) X.A) (hb : L2.Binds X.K fd ps [])
    (hx : Passes CX X (fun _ _ _ => False)) (hg : Gl X x) (hm : X.mg x = some (.ref C)) (hdb : (x == ("__debug__" : Str)) = false := by decide) :
    PMk X (.Call (.Name x p) [] [] pos) (fun _ H Q => (∀ a, H a = none → sp [.ref a] (upd H a (exo a C none)) (fun v H2 => v = .non ∧ H2 = upd H a (exo a C none)) (fun _ _ _ => False)) ∧ Q (.ref C) none H) := by
  intro pins s σ H Q I hw
  obtain ⟨nm, q, N, bs, bm, sn, sub, ab, col, dd, k0, k1, k2, k3, k5, hC, hbm⟩ := T.cls
  refine wpAny_Call_Name_kw (ld_glob I hg hm ?_ hdb)
  refine PySem.W.callWith_K0 I.kIn T.kC ?_
  show wpAny _ _ (call (.ref C) []) _ _ _
  obtain ⟨hp, g, dr, tk, os⟩ := s
  have hsz : hp.objs.size ≤ hp.objs.size + 1 := Nat.le_succ _
  have hn : H (hp.objs.size + 1) = none := I.hok.fresh hsz
  obtain ⟨hw1, hw2⟩ := hw
  have hq := hw1 (hp.objs.size + 1) hn
  have kk : ∀ b o, hp.get? b = some o → ((hp.push (PySem.W.kdv_tup [])).push (PySem.HandSPX.excO C hp.objs.size)).get? b = some o := fun b o z =>
    Heap.get?_push_of_some _ (Heap.get?_push_of_some _ z)
  have hget : ((hp.push (PySem.W.kdv_tup [])).push (PySem.HandSPX.excO C hp.objs.size)).get? (hp.objs.size + 1) = some (PySem.HandSPX.excO C hp.objs.size) := by heap_get
  have I2 := I.laid (t' := tk) (a := hp.objs.size + 1) (o := exo (hp.objs.size + 1) C none) kk hsz (exo_ok hget)
  have r2 : Vals [V.ref (hp.objs.size + 1)] [Value.ref (hp.objs.size + 1)] := .cons rfl .nil
  have lb := hb _ [Value.ref (hp.objs.size + 1)] I2.kIn (F1.len _ _ _ _ hq)
  refine wpAny_call (PySem.HandSPX.call_own F.excBase_ValueError (fun Y => PySem.HandSPX.refsVE_contains Y bm hbm) (I.kIn _ _ hC) (PySem.W.looks_findIn I.kIn iC)
    (fun self => PySem.W.bind_fn I.kIn self tI) (Nat.zero_le _)
    (codeAny_mono (F1.run _ X.stack _ _ ⟨[Value.ref (hp.objs.size + 1)], []⟩ [Value.ref (hp.objs.size + 1)] _ _ (fun _ _ _ => False) (hr.make C [] []) (I2.env0.make C [] []) lb r2 hq)
      fun r s' hq' => ?_))
  cases r with
  | error er => exact hx pins σ _ _ er s' I2 hq'
  | ok fl =>
    cases fl with
    | ret u =>
      obtain ⟨v, H2, os2, bare2, un2, hok2, rv, ev, eH⟩ := hq'
      subst ev
      subst eH
      obtain ⟨h2, g2, d2, t2, os'⟩ := s'
      obtain ⟨t0, G, J, kG, ge, na, hoe⟩ := bare_end (d2 := d2) (t2 := t2) I hsz kk un2 hok2 os2 bare2
      exact ⟨rv, ⟨_, _, _, ⟨G, g2, d2, t2, os'⟩, H, .ref C, none, rfl, J, kG, ge, hoe, ⟨rfl, rfl⟩, rfl, rfl, na, rfl, bare2, raises_own T.exC T.tyC, hw2⟩⟩
    | next => exact False.elim hq'
    | brk => exact False.elim hq'
    | cont => exact False.elim hq'
end
/-! ### defs by what they keep -/
/-- the def at f keeps sp; CX: what it may let out -/
structure FnC (P : Program) (w : World) (K : PySem.W.Frag) (mg : Str → Option Value) (base : Heap) (CX : CXT) (k : Nat) (f : Addr) (sp : Sp) : Prop where
  ex : ∃ (fd : FuncData) (ps : List Str), FnOk P w K mg base CX k f fd ps sp ∧ L2.Binds K fd ps [] ∧ PySem.W.keepIn K (.ref f) = true
section
variable {P : Program} {w : World} {K : PySem.W.Frag} {mg : Str → Option Value} {base : Heap}
theorem FnC.imp {CX : CXT} {k : Nat} {f : Addr} {sp sp' : Sp} (c : FnC P w K mg base CX k f sp) (h : ∀ vs H Q E, sp' vs H Q E → sp vs H Q E) : FnC P w K mg base CX k f sp' := by
  obtain ⟨fd, ps, F, b, kp⟩ := c.ex
  exact ⟨fd, ps, F.imp h, b, kp⟩
theorem fnc {CX : CXT} {x qual : Str} {params : Arguments} {body : List Stmt} {scope : Scope} {kws : List (Str × V)} {f : Addr} {N ps : List Str} {k : Nat} {sp : Sp}
    (F : ∃ fd, FunD K x qual params body scope [] kws f fd) (S : FnScope N ps scope)
    (bd : ∀ (kV doc pm : Value) (an : Option Addr) (cdv ct : Value) (us : List Value), us.length = ps.length → bindArgs (PySem.W.fnOf x qual params body scope .none kV doc pm an cdv ct) ⟨us, []⟩ = pure (ps.zip us))
    (len : ∀ vs H Q E, sp vs H Q E → vs.length = ps.length)
    (hb : ∀ (cdv : Value) (A : Around) (outer : List Env) (s : Shared) (H : Hp) (vs : List V) (Q : VK) (E : XK), Room k (A.deeper (envOfC qual scope s.heap.objs.size f cdv)) → sp vs H Q E →
      ∃ t, PSs (cxOf CX P w K mg base N qual scope f cdv A outer s H E) body t ∧ t { nx := fun _ H' => Q .non H', rt := Q } (start N vs) H) : FnC P w K mg base CX (k + 1) f sp := by
  obtain ⟨fd, F⟩ := F
  exact ⟨fd, ps, F.ok S len hb, F.bindsN bd, F.kp⟩
/-- a def that lets nothing out -/
theorem fnc0 {x qual : Str} {params : Arguments} {body : List Stmt} {scope : Scope} {kws : List (Str × V)} {f : Addr} {N ps : List Str} {k : Nat} {sp : Sp}
    (F : ∃ fd, FunD K x qual params body scope [] kws f fd) (S : FnScope N ps scope)
    (bd : ∀ (kV doc pm : Value) (an : Option Addr) (cdv ct : Value) (us : List Value), us.length = ps.length → bindArgs (PySem.W.fnOf x qual params body scope .none kV doc pm an cdv ct) ⟨us, []⟩ = pure (ps.zip us))
    (len : ∀ vs H Q E, sp vs H Q E → vs.length = ps.length)
    (hb : ∀ (cdv : Value) (A : Around) (outer : List Env) (s : Shared) (H : Hp) (vs : List V) (Q : VK) (E : XK), Room k (A.deeper (envOfC qual scope s.heap.objs.size f cdv)) → sp vs H Q E →
      ∃ t, PSs (cxOf CX0 P w K mg base N qual scope f cdv A outer s H E).nox body t ∧ t { nx := fun _ H' => Q .non H', rt := Q } (start N vs) H) : FnC P w K mg base CX0 (k + 1) f sp :=
  fnc F S bd len fun cdv A outer s H vs Q E hr h => by
    obtain ⟨t, h1, h2⟩ := hb cdv A outer s H vs Q E hr h
    exact ⟨t, h1.nox, h2⟩
end
section
variable {X : Cx} {x m : Str} {C f : Addr} {CX : CXT} {k j : Nat} {sp : Sp} {E : XK} {ES : L2.St → XK} {e o : Expr} {es : List Expr} {t : TA} {ta : TE} {p apos pos : Pos}
theorem pe_f (c : FnC X.prog X.w X.K X.mg X.base CX k f sp) (hr : Room j X.A) (hk : k ≤ j) (hg : Gl X x) (hm : X.mg x = some (.ref f)) (hx : Passes CX X E) (ha : PA X (e :: es) t)
    (hdb : (x == ("__debug__" : Str)) = false := by decide) (h1 : starEach (e :: es) X.env = (false, eval e X.env) :: starEach es X.env := by rfl) (h2 : (backTo pos (starEach es X.env)).any (·.1) = false := by rfl) :
    PE X (.Call (.Name x p) (e :: es) [] pos) (tCall sp [] E t) := by
  obtain ⟨fd, ps, F, b, kp⟩ := c.ex
  exact pe_call F (hr.mono hk) hg hm kp b .nil hx ha hdb h1 h2
theorem pe_f0 (c : FnC X.prog X.w X.K X.mg X.base CX k f sp) (hr : Room j X.A) (hk : k ≤ j) (hg : Gl X x) (hm : X.mg x = some (.ref f)) (hx : Passes CX X E)
    (hdb : (x == ("__debug__" : Str)) = false := by decide) : PE X (.Call (.Name x p) [] [] pos) (tCall sp [] E tNil) := by
  obtain ⟨fd, ps, F, b, kp⟩ := c.ex
  exact pe_call0 F (hr.mono hk) hg hm kp b .nil hx hdb
/-- .. where what is raised is wished for at the slots -/
theorem pe_fS (c : FnC X.prog X.w X.K X.mg X.base CX k f sp) (hr : Room j X.A) (hk : k ≤ j) (hg : Gl X x) (hm : X.mg x = some (.ref f)) (hx : ∀ σ, PassesAt CX X σ (ES σ)) (ha : PA X (e :: es) t)
    (hdb : (x == ("__debug__" : Str)) = false := by decide) (h1 : starEach (e :: es) X.env = (false, eval e X.env) :: starEach es X.env := by rfl) (h2 : (backTo pos (starEach es X.env)).any (·.1) = false := by rfl) :
    PE X (.Call (.Name x p) (e :: es) [] pos) (tCallS sp ES t) := by
  obtain ⟨fd, ps, F, b, kp⟩ := c.ex
  exact pe_callS F (hr.mono hk) hg hm kp b hx ha hdb h1 h2
theorem pe_m {pl : Sem Bool} (c : FnC X.prog X.w X.K X.mg X.base CX k f sp) (hr : Room j X.A) (hk : k ≤ j) (hc : Cls X.K C) (hm : Meth X.K C m f) (hx : Passes CX X E) (ho : PE X o ta) (ha : PA X (e :: es) t)
    (h1 : starEach (e :: es) X.env = (false, eval e X.env) :: starEach es X.env := by rfl) (h2 : (backTo pos (starEach es X.env)).any (·.1) = false := by rfl)
    (h3 : eval (.Call (.Attribute o m apos) (e :: es) [] pos) X.env = (do
      let ov ← eval o X.env
      standAt apos.atName
      let (g, first) ← holding [ov] (getMethod ov m pl)
      callWith pos g first (backTo pos (starEach (e :: es) X.env)) (backToKw pos (keywordEach [] X.env))) := by rfl) :
    PE X (.Call (.Attribute o m apos) (e :: es) [] pos) (tMeth C m sp [] E ta t) := by
  obtain ⟨fd, ps, F, b, kp⟩ := c.ex
  exact pe_meth (pl := pl) ho hc hm F (hr.mono hk) b .nil hx ha h1 h2 h3
theorem pe_m0 {pl : Sem Bool} (c : FnC X.prog X.w X.K X.mg X.base CX k f sp) (hr : Room j X.A) (hk : k ≤ j) (hc : Cls X.K C) (hm : Meth X.K C m f) (hx : Passes CX X E) (ho : PE X o ta)
    (h3 : eval (.Call (.Attribute o m apos) [] [] pos) X.env = (do
      let ov ← eval o X.env
      standAt apos.atName
      let (g, first) ← holding [ov] (getMethod ov m pl)
      callWith pos g first (backTo pos (starEach [] X.env)) (backToKw pos (keywordEach [] X.env))) := by rfl) :
    PE X (.Call (.Attribute o m apos) [] [] pos) (tMeth C m sp [] E ta tNil) := by
  obtain ⟨fd, ps, F, b, kp⟩ := c.ex
  exact pe_meth0 (pl := pl) ho hc hm F (hr.mono hk) b .nil hx h3
theorem pe_k0 (c : FnC X.prog X.w X.K X.mg X.base CX k f sp) (hr : Room j X.A) (hk : k + 1 ≤ j) (hg : Gl X x) (hm : X.mg x = some (.ref C)) (M : Mk X.K C f) (hx : Passes CX X E) (hdb : (x == ("__debug__" : Str)) = false := by decide) :
    PE X (.Call (.Name x p) [] [] pos) (tMake C sp [] E tNil) := by
  obtain ⟨fd, ps, F, b, kp⟩ := c.ex
  exact pe_make0 M F (hr.mono hk) hg hm b .nil hx hdb
theorem pe_k (c : FnC X.prog X.w X.K X.mg X.base CX k f sp) (hr : Room j X.A) (hk : k + 1 ≤ j) (hg : Gl X x) (hm : X.mg x = some (.ref C)) (M : Mk X.K C f) (hx : Passes CX X E) (ha : PA X (e :: es) t)
    (hdb : (x == ("__debug__" : Str)) = false := by decide) (h1 : starEach (e :: es) X.env = (false, eval e X.env) :: starEach es X.env := by rfl) (h2 : (backTo pos (starEach es X.env)).any (·.1) = false := by rfl) :
    PE X (.Call (.Name x p) (e :: es) [] pos) (tMake C sp [] E t) := by
  obtain ⟨fd, ps, F, b, kp⟩ := c.ex
  exact pe_make M F (hr.mono hk) hg hm b .nil hx ha hdb h1 h2
/-- o.m(e, ..) where what is raised is wished for at the slots -/
def tMethAt (C : Addr) (m : Str) (sp : Sp) (ES : L2.St → XK) (ta : TE) (t : TA) : TE := fun σ H Q => ta σ H fun x H1 => ∃ a dx fs, x = .ref a ∧ H1 a = some (.ins C dx fs) ∧ fs.lookup m = none ∧ t σ H1 fun vs H2 => sp (x :: vs) H2 Q (ES σ)
theorem pe_mS {pl : Sem Bool} (c : FnC X.prog X.w X.K X.mg X.base CX k f sp) (hr : Room j X.A) (hk : k ≤ j) (hc : Cls X.K C) (hm : Meth X.K C m f) (hx : ∀ σ, PassesAt CX X σ (ES σ)) (ho : PE X o ta) (hA : PA X (e :: es) t)
    (h1 : starEach (e :: es) X.env = (false, eval e X.env) :: starEach es X.env := by rfl) (h2 : (backTo pos (starEach es X.env)).any (·.1) = false := by rfl)
    (h3 : eval (.Call (.Attribute o m apos) (e :: es) [] pos) X.env = (do
      let ov ← eval o X.env
      standAt apos.atName
      let (g, first) ← holding [ov] (getMethod ov m pl)
      callWith pos g first (backTo pos (starEach (e :: es) X.env)) (backToKw pos (keywordEach [] X.env))) := by rfl) :
    PE X (.Call (.Attribute o m apos) (e :: es) [] pos) (tMethAt C m sp ES ta t) := by
  obtain ⟨fd, ps, F, b, kp⟩ := c.ex
  refine ⟨fun pins s σ H Q I hw => ?_⟩
  refine PySem.W.methodCall_KW (pl := pl) (thn (ho.run pins s σ H _ I hw) fun u s1 hh => ?_) h3
  obtain ⟨y, H1, I1, ry, a, dx, fs, ey, ea, l, q⟩ := hh
  subst ey
  obtain rfl : u = Value.ref a := ry
  refine getmeth_ok I1 ea hc hm l ?_
  refine PySem.W.callWith_K (first := [.ref a]) (h₀ := X.base) I.ok.mod.kin hm.kp (thn (hA.run pos pins s1 σ H1 _ I1 q) fun us s2 hh => ?_) h1 h2
  obtain ⟨vs, H2, I2, r, q2⟩ := hh
  exact ⟨I2.kIn, run_fnS (us := .ref a :: us) (vs := .ref a :: vs) F (hr.mono hk) b (hx σ) I2 (.cons rfl r) q2⟩
/-- isinstance(e, C) of a caught exception, whatever its class -/
theorem pe_isX {a D : Addr} {oe : Obj} {pn : List (Addr × Obj)} {cls : Value} {d : Option Addr} (CD : ExcC X.K D) (hz : Zc cls d oe) (hf : ∃ vs, oe.data = .fields vs)
    (hg : Gl (X.suite a ((a, oe) :: pn)) "isinstance") (hm : X.mg "isinstance" = none) (hv : bootBuiltins "isinstance" = some (.builtin "isinstance")) (ha : PA (X.suite a ((a, oe) :: pn)) (e :: es) t)
    (h1 : starEach (e :: es) (X.suite a ((a, oe) :: pn)).env = (false, eval e (X.suite a ((a, oe) :: pn)).env) :: starEach es (X.suite a ((a, oe) :: pn)).env := by rfl) (h2 : (backTo pos (starEach es (X.suite a ((a, oe) :: pn)).env)).any (·.1) = false := by rfl) :
    PE (X.suite a ((a, oe) :: pn)) (.Call (.Name "isinstance" p) (e :: es) [] pos) (fun σ H Q => cls = .ref D ∧ d = none ∧ tCB (rIsE X.K D a) t σ H Q) := by
  refine ⟨fun pins s σ H Q I hw => ?_⟩
  obtain ⟨rfl, rfl, hw⟩ := hw
  exact (pe_callB (call_isE CD hz hf) hg hm hv ha (he := h1) (hpl := h2)).run pins s σ H Q I hw
end

/-! ### facts of the top beyond those of the hooks -/
/-- an exception class whose __init__ is its own -/
def oexB (K : PySem.W.Frag) (C : Addr) : Bool := match K.lookup C with
  | some ⟨.type t, _, .cls cd, sl⟩ => decide (t = "type") && (match cd.mro, sl.toList with
    | .ref D :: bm, [_, _, _, _, some (.builtin n), _] => decide (D = C) && (decide (n = "ValueError.__new__") && (!cd.hasDel && (cd.hasDict && PySem.HandSPX.refsVE bm)))
    | _, _ => false)
  | _ => false
theorem and2 {a b : Bool} (h : (a && b) = true) : a = true ∧ b = true := Bool.and_eq_true_iff.mp h
theorem oexB_ok {K : PySem.W.Frag} {C : Addr} (h : oexB K C = true) :
    ∃ nm q N bs bm sn sub ab col dd k0 k1 k2 k3 k5, K.lookup C = some (excClassObj nm q C N bs bm true sn sub ab col dd k0 k1 k2 k3 k5 "ValueError.__new__") ∧ PySem.HandSPX.refsVE bm = true := by
  unfold oexB at h
  split at h
  · rename_i t dd cd sl hl
    obtain ⟨h0, h⟩ := and2 h
    split at h
    · rename_i D bm k0 k1 k2 k3 n k5 e1 e2
      obtain ⟨h1, h⟩ := and2 h
      obtain ⟨h2, h⟩ := and2 h
      obtain ⟨h3, h⟩ := and2 h
      obtain ⟨h4, h5⟩ := and2 h
      have q0 : t = "type" := of_decide_eq_true h0
      have q1 : D = C := of_decide_eq_true h1
      have q2 : n = "ValueError.__new__" := of_decide_eq_true h2
      subst q0 q1 q2
      obtain ⟨nm, bs, mro, ns, qn, hd, sn, sub, ab, col, dl⟩ := cd
      dsimp only at e1 h3 h4
      subst e1
      subst h4
      have h3' : dl = false := by
        cases dl
        · rfl
        · cases h3
      subst h3'
      obtain ⟨l⟩ := sl
      have e3 : l = [k0, k1, k2, k3, some (.builtin "ValueError.__new__"), k5] := e2
      subst e3
      exact ⟨nm, qn, ns, bs, bm, sn, sub, ab, col, dd, k0, k1, k2, k3, k5, hl, h5⟩
    · cases h
  · cases h
inductive Ex where
  | oex (x : Str) | ity (x m : Str) | clf (x m : Str) | exi (x : Str) | kit (x y : Str) (b : Bool) | vei | tup (x : Str) (vs : List He.Dv) | fact (p : PySem.W.Frag → Bool)
def Ex.ok (K : PySem.W.Frag) : Ex → Bool
  | .oex x => oexB K (He.ga K x) && (He.eqO (PySem.W.findIn K (.ref (He.ga K x)) "__setattr__") (some (some (.builtin "object.__setattr__"))) &&
      (decide (PySem.W.subIn K (.ref (He.ga K x)) (.type "BaseException") = some true) && (decide (PySem.W.typeIn K (.ref (He.ga K x)) = some (.type "type")) && PySem.W.keepIn K (.ref (He.ga K x)))))
  | .ity x m => He.eqO (PySem.W.findIn K (.ref (He.ga K x)) m) (some (some (.ref (He.ma K (He.ga K x) m)))) && decide (PySem.W.typeIn K (.ref (He.ma K (He.ga K x) m)) = some (.type "function"))
  | .clf x m => PySem.W.readsIn K (He.ga K x) (.type "type") && (He.eqO (PySem.W.specialIn K (.ref (He.ga K x)) "__getattribute__") (some (some (.builtin "type.__getattribute__"))) &&
      ((match PySem.W.findCls K (.ref (He.ga K x)) (.type "type") m with | some (.val (.ref f)) => decide (f = He.ma K (He.ga K x) m) | _ => false) && PySem.W.keepIn K (.ref (He.ma K (He.ga K x) m))))
  | .exi x => He.eqO (PySem.W.findIn K (.ref (He.ga K x)) "__getattribute__") (some (some (.builtin "BaseException.__getattribute__"))) && (He.eqO (PySem.W.findIn K (.ref (He.ga K x)) "__getattr__") (some none) &&
      (decide (PySem.W.subIn K (.ref (He.ga K x)) (.type "BaseException") = some true) && (PySem.W.hasDictIn K (He.ga K x) && (He.eqO (PySem.W.findIn K (.ref (He.ga K x)) "__class__") (some (some (.builtin "object.__class__"))) &&
      (He.eqO (PySem.W.specialIn K (.builtin "object.__class__") "__get__") (some (some (.builtin "getset_descriptor.__get__"))) && (decide (PySem.W.takesIn K (.builtin "object.__class__") = some true) && decide (PySem.W.mroIn K (He.ga K x) (.type "object") = some true)))))))
  | .kit x y b => decide (PySem.W.kitOne K (.ref (He.ga K x)) (.ref (He.ga K y)) = some b)
  | .vei => (match PySem.W.findCls K (.type "ValueError") (.type "type") "__init__" with | some (.val (.builtin n)) => decide (n = "ValueError.__init__") | _ => false)
  | .tup x vs => He.tupB K x vs
  | .fact p => p K
section
variable {K : PySem.W.Frag} {x y m : Str} {b : Bool}
theorem oex_ok (c : (Ex.oex x).ok K = true) : OexC K (He.ga K x) := by
  obtain ⟨c1, c⟩ := and2 c
  obtain ⟨c2, c⟩ := and2 c
  obtain ⟨c3, c⟩ := and2 c
  obtain ⟨c4, c5⟩ := and2 c
  exact ⟨oexB_ok c1, He.eqO_ok c2, of_decide_eq_true c3, of_decide_eq_true c4, c5⟩
theorem ity_ok (c : (Ex.ity x m).ok K = true) : PySem.W.findIn K (.ref (He.ga K x)) m = some (some (.ref (He.ma K (He.ga K x) m))) ∧ PySem.W.typeIn K (.ref (He.ma K (He.ga K x) m)) = some (.type "function") := by
  obtain ⟨c1, c2⟩ := and2 c
  exact ⟨He.eqO_ok c1, of_decide_eq_true c2⟩
theorem clf_ok (c : (Ex.clf x m).ok K = true) : ClsFn K (He.ga K x) (.type "type") m (He.ma K (He.ga K x) m) := by
  obtain ⟨c1, c⟩ := and2 c
  obtain ⟨c2, c⟩ := and2 c
  obtain ⟨c3, c4⟩ := and2 c
  refine ⟨c1, He.eqO_ok c2, ?_, c4⟩
  split at c3
  · rename_i f hf
    rw [hf, of_decide_eq_true c3]
  · cases c3
theorem exi_ok (c : (Ex.exi x).ok K = true) : ExcC K (He.ga K x) := by
  obtain ⟨c1, c⟩ := and2 c
  obtain ⟨c2, c⟩ := and2 c
  obtain ⟨c3, c⟩ := and2 c
  obtain ⟨c4, c⟩ := and2 c
  obtain ⟨c5, c⟩ := and2 c
  obtain ⟨c6, c⟩ := and2 c
  obtain ⟨c7, c8⟩ := and2 c
  exact ⟨He.eqO_ok c1, He.eqO_ok c2, of_decide_eq_true c3, c4, He.eqO_ok c5, He.eqO_ok c6, of_decide_eq_true c7, of_decide_eq_true c8⟩
theorem kit_ok (c : (Ex.kit x y b).ok K = true) : PySem.W.kitOne K (.ref (He.ga K x)) (.ref (He.ga K y)) = some b := of_decide_eq_true c
theorem vei_ok (c : (Ex.vei).ok K = true) : PySem.W.findCls K (.type "ValueError") (.type "type") "__init__" = some (.val (.builtin "ValueError.__init__")) := by
  have c' : (match PySem.W.findCls K (.type "ValueError") (.type "type") "__init__" with | some (.val (.builtin n)) => decide (n = "ValueError.__init__") | _ => false) = true := c
  split at c'
  · rename_i n hn
    rw [hn, of_decide_eq_true c']
  · cases c'
theorem tup_ok {vs : List He.Dv} (c : (Ex.tup x vs).ok K = true) (H : Hp) : SqT K H (He.ga K x) (vs.map (He.Dv.v K)) := He.tupB_ok c H
end
/-- a const of the module, an int -/
theorem int_at {K : PySem.W.Frag} {h : Heap} {mg : Str → Option Value} {x : Str} {i : Int} (X : K.In h) (G : h.Ns mainGlobals mg) (c : (He.Fa.int x i).ok K = true) : ∃ u, mg x = some u ∧ RelV (.int i) u := by
  obtain ⟨t, e⟩ := He.int_ok X G c
  exact ⟨_, e, t, rfl⟩

section
variable {X : Cx} {x m : Str} {C f : Addr} {CX : CXT} {k j : Nat} {sp : Sp} {E : XK} {e : Expr} {es : List Expr} {t : TA} {p p1 p2 pos : Pos} {mc : Value}
theorem pe_cls {pl : Sem Bool} (c : ClsFn X.K C mc m f) (F : FnC X.prog X.w X.K X.mg X.base CX k f sp) (hr : Room j X.A) (hk : k ≤ j)
    (hg : Gl X x) (hm : X.mg x = some (.ref C)) (hx : Passes CX X E) (hP : PA X (e :: es) t)
    (hc : eval (.Call (.Attribute (.Name x p1) m p2) (e :: es) [] pos) X.env = (do
      let ov ← eval (.Name x p1) X.env
      standAt p2.atName
      let (g, first) ← holding [ov] (getMethod ov m pl)
      callWith pos g first (backTo pos (starEach (e :: es) X.env)) (backToKw pos (keywordEach [] X.env))) := by rfl)
    (hs1 : starEach (e :: es) X.env = (false, eval e X.env) :: starEach es X.env := by rfl)
    (hs2 : (backTo pos (starEach es X.env)).any (·.1) = false := by rfl) (hdb : (x == ("__debug__" : Str)) = false := by decide) :
    PE X (.Call (.Attribute (.Name x p1) m p2) (e :: es) [] pos) (tCall sp [] E t) := by
  obtain ⟨fd, ps, F, b, kp⟩ := F.ex
  exact pe_clsfn (pl := pl) c F (hr.mono hk) hg hm b .nil hx hP hc hs1 hs2 hdb
theorem pmk_bare (T : OexC X.K C) (i : PySem.W.findIn X.K (.ref C) "__init__" = some (some (.ref f))) (ti : PySem.W.typeIn X.K (.ref f) = some (.type "function"))
    (F : FnC X.prog X.w X.K X.mg X.base CX k f sp) (hr : Room j X.A) (hk : k + 1 ≤ j) (hx : Passes CX X (fun _ _ _ => False)) (hg : Gl X x) (hm : X.mg x = some (.ref C)) (hdb : (x == ("__debug__" : Str)) = false := by decide) :
    PMk X (.Call (.Name x p) [] [] pos) (fun _ H Q => (∀ a, H a = none → sp [.ref a] (upd H a (exo a C none)) (fun v H2 => v = .non ∧ H2 = upd H a (exo a C none)) (fun _ _ _ => False)) ∧ Q (.ref C) none H) := by
  obtain ⟨fd, ps, F, b, kp⟩ := F.ex
  exact pmk_bare0 T i ti F (hr.mono hk) b hx hg hm hdb
end

/-! ### the head's facts, the statics among them -/
def asR (g : Addr → Option Obj) : Nat → List Addr
  | 0 => [mainGlobals, cStatics]
  | n + 1 => He.growD g (asR g n)
abbrev AlR : Type := He.AlT × Bool
abbrev frR (n : Nat) (g : Addr → Option Obj) : PySem.W.Frag := He.frG g (asR g n)
def obsR (n : Nat) (fa : List He.Fa) (fn : List He.DefD) (ts : List He.Tab) (ex : List Ex) (g : Addr → Option Obj) : AlR := (He.obsT fa fn ts (frR n g), ex.all fun f => f.ok (frR n g))
structure SaysR (fa : List He.Fa) (fn : List He.DefD) (ts : List He.Tab) (ex : List Ex) (w : World) (K : PySem.W.Frag) : Prop where
  t : He.SaysT fa fn ts w K
  more : (ex.all fun f => f.ok K) = true
def hookR (n : Nat) (fa : List He.Fa) (fn : List He.DefD) (ts : List He.Tab) (ex : List Ex) : PySem.W.Hook where
  α := AlR
  obs := fun s => obsR n fa fn ts ex s.heap.get?
  val := fun w => (He.valT fn ts w, true)
  says := fun w h => ∃ K : PySem.W.Frag, K.In h ∧ SaysR fa fn ts ex w K
  of := fun _ _ e => ⟨_, He.frG_in, congrArg (fun z : AlR => z.1) e, congrArg (fun z : AlR => z.2) e⟩
  keeps := fun _ _ _ ⟨K, hK, c⟩ k => ⟨K, PySem.W.Frag.In.keeps hK k, c⟩
theorem obsR_eq {n : Nat} {fa : List He.Fa} {fn : List He.DefD} {ts : List He.Tab} {ex : List Ex} {g : Addr → Option Obj} {s : Shared} (h : ∀ a, g a = s.heap.get? a) : obsR n fa fn ts ex g = (hookR n fa fn ts ex).obs s := by
  have e : g = s.heap.get? := funext h
  rw [e]
  rfl
theorem ex_at {fa : List He.Fa} {fn : List He.DefD} {ts : List He.Tab} {ex : List Ex} {w : World} {K : PySem.W.Frag} (c : SaysR fa fn ts ex w K) (i : Nat) {f : Ex} (e : ex[i]? = some f) : f.ok K = true :=
  List.all_eq_true.mp c.more f (List.mem_of_getElem? e)

section
variable {X : Cx}
/-- a const of the module -/
theorem pe_gc {x : Str} {v : V} {pos : Pos} (hg : Gl X x) (h : ∃ u, X.mg x = some u ∧ RelV v u) (hdb : (x == ("__debug__" : Str)) = false := by decide) : PE X (.Name x pos) (tC v) := by
  obtain ⟨u, hm, r⟩ := h
  exact pe_glob hg hm r hdb
end

section
variable {X : Cx} {K : PySem.W.Frag}
/-- a field, the written part by name (within a comprehension's block) -/
theorem pe_fldK {e : Expr} {f : Str} {pos : Pos} {ta : TE} (hK : X.K = K) (he : PE X e ta) (hb : attributeBase e f X.env (eval e X.env) = eval e X.env) : PE X (.Attribute e f pos) (tFld K ta f) := by
  subst hK
  exact pe_fld he hb
end

/-! ### what is read without a change of the heap -/
section
variable {σ : L2.St} {H : Hp} {ta tb tc : TE} {i j l : Int} {a b : Bool} {K : PySem.W.Frag}
theorem val_orV (h1 : Val ta σ H (.bl a)) (h2 : Val tb σ H (.bl b)) : Val (tOrV ta tb) σ H (.bl (a || b)) := fun Q q => by
  refine h1 _ ⟨a, rfl, ?_⟩
  cases a
  · exact h2 Q q
  · exact q
theorem val_andV (h1 : Val ta σ H (.bl a)) (h2 : Val tb σ H (.bl b)) : Val (tAndV ta tb) σ H (.bl (a && b)) := fun Q q => by
  refine h1 _ ⟨a, rfl, ?_⟩
  cases a
  · exact q
  · exact h2 Q q
theorem val_i0 {g : Int → Int → V} (h1 : Val ta σ H (.int i)) (h2 : Val tb σ H (.int j)) : Val (tOp (rI0 g) ta tb) σ H (g i j) := fun Q q =>
  h1 _ (h2 _ ⟨i, j, rfl, rfl, q⟩)
theorem val_chain {p q : Int → Int → Bool} (h1 : Val ta σ H (.int i)) (h2 : Val tb σ H (.int j)) (h3 : Val tc σ H (.int l)) :
    Val (tChain (rI0 fun i j => .bl (p i j)) (rI0 fun i j => .bl (q i j)) ta tb tc) σ H (.bl (p i j && q j l)) := fun Q k => by
  refine h1 _ (h2 _ ⟨i, j, rfl, rfl, p i j, rfl, ?_⟩)
  cases e : p i j with
  | false =>
    rw [e] at k
    exact k
  | true =>
    rw [e] at k
    exact h3 _ ⟨j, l, rfl, rfl, k⟩
theorem ne_same {x y : V} {d e : PyData} {Q : Bool → Hp → Prop} (hx : Dp K H x d) (hy : Dp K H y e) (sx : SeqAt.shaped d = true) (sy : SeqAt.shaped e = true) (he : PyData.eqv d e = true) (k : Q false H) :
    rNeD K x y H (fun z H' => ∃ c, z = .bl c ∧ Q c H') := ⟨d, e, hx, hy, sx, sy, _, rfl, by
  rw [he]
  exact k⟩
theorem eq_same {x y : V} {d e : PyData} {Q : VK} (hx : Dp K H x d) (hy : Dp K H y e) (sx : SeqAt.shaped d = true) (sy : SeqAt.shaped e = true) (he : PyData.eqv d e = true) (k : Q (.bl true) H) :
    rEqD K x y H Q := ⟨d, e, hx, hy, sx, sy, by
  rw [he]
  exact k⟩
end

/-- the law's def: its function object is told -/
theorem fnk0 {P : Program} {w : World} {K : PySem.W.Frag} {mg : Str → Option Value} {base : Heap} {x qual : Str} {params : Arguments} {body : List Stmt} {scope : Scope} {kws : List (Str × V)} {f : Addr} {fd : FuncData} {N ps : List Str} {k : Nat} {sp : Sp}
    (F : FunD K x qual params body scope [] kws f fd) (S : FnScope N ps scope) (len : ∀ vs H Q E, sp vs H Q E → vs.length = ps.length)
    (hb : ∀ (cdv : Value) (A : Around) (outer : List Env) (s : Shared) (H : Hp) (vs : List V) (Q : VK) (E : XK), Room k (A.deeper (envOfC qual scope s.heap.objs.size f cdv)) → sp vs H Q E →
      ∃ t, PSs (cxOf CX0 P w K mg base N qual scope f cdv A outer s H E).nox body t ∧ t { nx := fun _ H' => Q .non H', rt := Q } (start N vs) H) : FnOk P w K mg base CX0 (k + 1) f fd ps sp :=
  F.ok S len fun cdv A outer s H vs Q E hr h => by
    obtain ⟨t, h1, h2⟩ := hb cdv A outer s H vs Q E hr h
    exact ⟨t, h1.nox, h2⟩
end Rb
/-! Objects by their fields; a memory as it lies in the heap. -/
namespace Rb
open PySem PySem.Spec PyProof.Rows L2
/-! ### fields by names -/
def fix (f : Str) : List Str → Option Nat
  | [] => none
  | n :: r => if f = n then some 0 else (fix f r).map (· + 1)
theorem zl {f : Str} {v : V} : ∀ {ns : List Str} {vs : List V} {i : Nat}, fix f ns = some i → vs[i]? = some v → (List.zip ns vs).lookup f = some v
  | [], _, _, h, _ => by cases h
  | n :: r, [], i, h, hv => by simp at hv
  | n :: r, x :: vs, i, h, hv => by
    unfold fix at h
    by_cases e : f = n
    · rw [if_pos e] at h
      cases h
      subst e
      show List.lookup f ((f, x) :: List.zip r vs) = some v
      simp at hv
      rw [List.lookup_cons_self, hv]
    · rw [if_neg e] at h
      cases q : fix f r with
      | none =>
        rw [q] at h
        cases h
      | some j =>
        rw [q] at h
        cases h
        show List.lookup f ((n, x) :: List.zip r vs) = some v
        have e' : (f == n) = false := by simpa using e
        rw [List.lookup_cons, e']
        exact zl q (by simpa using hv)
theorem zn {f : Str} : ∀ {ns : List Str} {vs : List V}, fix f ns = none → (List.zip ns vs).lookup f = none
  | [], _, _ => rfl
  | n :: r, [], _ => rfl
  | n :: r, x :: vs, h => by
    unfold fix at h
    by_cases e : f = n
    · rw [if_pos e] at h
      cases h
    · rw [if_neg e] at h
      cases q : fix f r with
      | some j =>
        rw [q] at h
        cases h
      | none =>
        show List.lookup f ((n, x) :: List.zip r vs) = none
        have e' : (f == n) = false := by simpa using e
        rw [List.lookup_cons, e']
        exact zn q
theorem zp {f : Str} {v : V} : ∀ {ns : List Str} {vs : List V} {i : Nat}, fix f ns = some i → ns.length = vs.length → putF f v (List.zip ns vs) = List.zip ns (vs.set i v)
  | [], _, _, h, _ => by cases h
  | n :: r, [], i, h, hl => by cases hl
  | n :: r, x :: vs, i, h, hl => by
    unfold fix at h
    by_cases e : f = n
    · rw [if_pos e] at h
      cases h
      subst e
      show (if f = f then (f, v) :: List.zip r vs else _) = (f, v) :: List.zip r vs
      rw [if_pos rfl]
    · rw [if_neg e] at h
      cases q : fix f r with
      | none =>
        rw [q] at h
        cases h
      | some j =>
        rw [q] at h
        cases h
        show (if n = f then (n, v) :: List.zip r vs else (n, x) :: putF f v (List.zip r vs)) = (n, x) :: List.zip r (vs.set j v)
        rw [if_neg (fun z => e z.symm), zp q (Nat.succ.inj hl)]
theorem zx {f : Str} {v : V} : ∀ {ns : List Str} {vs : List V}, fix f ns = none → ns.length = vs.length → putF f v (List.zip ns vs) = List.zip (ns ++ [f]) (vs ++ [v])
  | [], [], _, _ => rfl
  | [], _ :: _, _, hl => by cases hl
  | n :: r, [], _, hl => by cases hl
  | n :: r, x :: vs, h, hl => by
    unfold fix at h
    by_cases e : f = n
    · rw [if_pos e] at h
      cases h
    · rw [if_neg e] at h
      cases q : fix f r with
      | some j =>
        rw [q] at h
        cases h
      | none =>
        show (if n = f then (n, v) :: List.zip r vs else (n, x) :: putF f v (List.zip r vs)) = (n, x) :: List.zip (r ++ [f]) (vs ++ [v])
        rw [if_neg (fun z => e z.symm), zx q (Nat.succ.inj hl)]
/-! ### the objects of a memory -/
def gNames : List Str := ["_entries", "_queue", "_tickets"]
def gFld (e q : Addr) (n : Int) : List (Str × V) := List.zip gNames [.ref e, .ref q, .int n]
def mNames : List Str := ["count", "guards", "_cells", "_blocks", "_journals", "_log"]
def mFld (n : Int) (aG aC aB aJ aL : Addr) : List (Str × V) := List.zip mNames [.int n, .ref aG, .ref aC, .ref aB, .ref aJ, .ref aL]
/-- a guard: what its entries, its queue and its tickets are -/
structure GS where
  ents : List (Key × V)
  que : List V
  tix : Int
/-- where a guard lies: the object, its dict, its entries, its queue -/
structure GL where
  g : Addr
  d : Addr
  e : Addr
  q : Addr
def GL.all (L : GL) : List Addr := [L.d, L.g, L.e, L.q]
structure GuardAt (C : Addr) (L : GL) (H : Hp) (G : GS) : Prop where
  og : H L.g = some (.ins C L.d (gFld L.e L.q G.tix))
  od : H L.d = some (.own L.g)
  oe : H L.e = some (.dK G.ents)
  oq : H L.q = some (.lst G.que)
theorem GuardAt.keep {C : Addr} {L : GL} {H H' : Hp} {G : GS} (h : GuardAt C L H G) (k : ∀ b ∈ L.all, H' b = H b) : GuardAt C L H' G :=
  ⟨(k _ (by simp [GL.all])).trans h.og, (k _ (by simp [GL.all])).trans h.od, (k _ (by simp [GL.all])).trans h.oe, (k _ (by simp [GL.all])).trans h.oq⟩
structure MS where
  count : Int
  cells : List V
  bl : Nat → List V
  jo : List V
  log : List V
  gs : Nat → GS
structure ML where
  m : Addr
  d : Addr
  aG : Addr
  aC : Addr
  aB : Addr
  bl : Nat → Addr
  aJ : Addr
  aL : Addr
  gs : Nat → GL
def ML.all (L : ML) : List Addr := [L.m, L.d, L.aG] ++ (L.gs 0).all ++ (L.gs 1).all ++ [L.aC, L.aB, L.bl 0, L.bl 1, L.aJ, L.aL]
structure MemAt (Cm Cg : Addr) (L : ML) (H : Hp) (M : MS) : Prop where
  om : H L.m = some (.ins Cm L.d (mFld M.count L.aG L.aC L.aB L.aJ L.aL))
  od : H L.d = some (.own L.m)
  og : H L.aG = some (.lst [.ref (L.gs 0).g, .ref (L.gs 1).g])
  oc : H L.aC = some (.lst M.cells)
  ob : H L.aB = some (.lst [.ref (L.bl 0), .ref (L.bl 1)])
  obl : ∀ d, d < 2 → H (L.bl d) = some (.lst (M.bl d))
  oj : H L.aJ = some (.lst M.jo)
  ol : H L.aL = some (.lst M.log)
  gu : ∀ d, d < 2 → GuardAt Cg (L.gs d) H (M.gs d)
  nd : L.all.Nodup
theorem lt2 {d : Nat} (h : d < 2) : d = 0 ∨ d = 1 := by omega
theorem ML.in_g {L : ML} {d : Nat} (hd : d < 2) {b : Addr} (h : b ∈ (L.gs d).all) : b ∈ L.all := by
  unfold ML.all
  rcases lt2 hd with rfl | rfl
  · exact List.mem_append_left _ (List.mem_append_left _ (List.mem_append_right _ h))
  · exact List.mem_append_left _ (List.mem_append_right _ h)
theorem ML.in_b {L : ML} {d : Nat} (hd : d < 2) : L.bl d ∈ L.all := by
  unfold ML.all
  rcases lt2 hd with rfl | rfl
  · simp
  · simp
/-- what lies outside of the memory does not matter -/
theorem MemAt.keep {Cm Cg : Addr} {L : ML} {H H' : Hp} {M : MS} (h : MemAt Cm Cg L H M) (k : ∀ b ∈ L.all, H' b = H b) : MemAt Cm Cg L H' M where
  om := (k _ (by simp [ML.all])).trans h.om
  od := (k _ (by simp [ML.all])).trans h.od
  og := (k _ (by simp [ML.all])).trans h.og
  oc := (k _ (by simp [ML.all])).trans h.oc
  ob := (k _ (by simp [ML.all])).trans h.ob
  obl := fun d hd => (k _ (ML.in_b hd)).trans (h.obl d hd)
  oj := (k _ (by simp [ML.all])).trans h.oj
  ol := (k _ (by simp [ML.all])).trans h.ol
  gu := fun d hd => (h.gu d hd).keep fun b hb => k b (ML.in_g hd hb)
  nd := h.nd
/-- what is tracked stays: heaps that only grow keep a memory -/
theorem MemAt.same {Cm Cg : Addr} {L : ML} {H H' : Hp} {M : MS} (h : MemAt Cm Cg L H M) (s : Same H H') : MemAt Cm Cg L H' M where
  om := s _ _ h.om
  od := s _ _ h.od
  og := s _ _ h.og
  oc := s _ _ h.oc
  ob := s _ _ h.ob
  obl := fun d hd => s _ _ (h.obl d hd)
  oj := s _ _ h.oj
  ol := s _ _ h.ol
  gu := fun d hd => ⟨s _ _ (h.gu d hd).og, s _ _ (h.gu d hd).od, s _ _ (h.gu d hd).oe, s _ _ (h.gu d hd).oq⟩
  nd := h.nd
theorem Same.new {H H' : Hp} {p : Addr} {o : HO} (s : Same H H') (h : H p = none) : Same H (upd H' p o) := fun b u e => by
  rw [upd_ne (ne_of_none e h)]
  exact s b u e
theorem free_upd {H : Hp} {p a : Addr} {o : HO} (h : upd H p o a = none) : a ≠ p ∧ H a = none := by
  by_cases e : a = p
  · rw [e, upd_same] at h
    cases h
  · rw [upd_ne e] at h
    exact ⟨e, h⟩

/-! ### addresses apart, all of them tracked -/
structure Trk (H : Hp) (S : List Addr) : Prop where
  nd : S.Nodup
  tr : ∀ a ∈ S, H a ≠ none
theorem Trk.not {H : Hp} {S : List Addr} {p : Addr} (t : Trk H S) (h : H p = none) : p ∉ S := fun m => t.tr p m h
theorem Trk.dom {H H' : Hp} {S : List Addr} (t : Trk H S) (k : ∀ a ∈ S, H a ≠ none → H' a ≠ none) : Trk H' S := ⟨t.nd, fun a m => k a m (t.tr a m)⟩
theorem dom_upd {H : Hp} {p a : Addr} {o : HO} (h : H a ≠ none) : upd H p o a ≠ none := by
  by_cases e : a = p
  · rw [e, upd_same]
    intro z
    cases z
  · rw [upd_ne e]
    exact h
theorem Trk.upd {H : Hp} {S : List Addr} {p : Addr} {o : HO} (t : Trk H S) : Trk (upd H p o) S := t.dom fun _ _ h => dom_upd h
theorem Trk.same {H H' : Hp} {S : List Addr} (t : Trk H S) (s : Same H H') : Trk H' S := t.dom fun a _ h => by
  cases q : H a with
  | none => exact absurd q h
  | some o =>
    rw [s a o q]
    intro z
    cases z
theorem Trk.add {H H' : Hp} {S : List Addr} {p : Addr} (t : Trk H S) (h : H p = none) (h' : H' p ≠ none) (k : ∀ a ∈ S, H a ≠ none → H' a ≠ none) : Trk H' (S ++ [p]) where
  nd := by
    rw [List.nodup_append]
    refine ⟨t.nd, by simp, fun a ha b hb e => ?_⟩
    rw [List.mem_singleton] at hb
    rw [e, hb] at ha
    exact t.not h ha
  tr := fun a ha => by
    rcases List.mem_append.mp ha with q | q
    · exact k a q (t.tr a q)
    · rw [List.mem_singleton] at q
      rw [q]
      exact h'
theorem Trk.new {H : Hp} {S : List Addr} {p : Addr} {o : HO} (t : Trk H S) (h : H p = none) : Trk (L2.upd H p o) (S ++ [p]) :=
  t.add h (by rw [upd_same]; intro z; cases z) fun a _ q => dom_upd q

theorem Trk.adds {H H' : Hp} {S ps : List Addr} (t : Trk H S) (hn : ps.Nodup) (h : ∀ p ∈ ps, H p = none) (h' : ∀ p ∈ ps, H' p ≠ none) (k : ∀ a ∈ S, H a ≠ none → H' a ≠ none) : Trk H' (S ++ ps) where
  nd := by
    rw [List.nodup_append]
    exact ⟨t.nd, hn, fun a ha b hb e => t.not (h b hb) (e ▸ ha)⟩
  tr := fun a ha => by
    rcases List.mem_append.mp ha with q | q
    · exact k a q (t.tr a q)
    · exact h' a q
theorem some_ne {o : HO} {x : Option HO} (h : x = some o) : x ≠ none := by
  rw [h]
  intro z
  cases z
theorem Trk.ne {H : Hp} {S : List Addr} {a b : Addr} {R : List Addr} (t : Trk H S) (e : S = R ++ [b]) (h : a ∈ R) : a ≠ b := by
  have n := t.nd
  rw [e, List.nodup_append] at n
  exact n.2.2 a h b (by simp)
/-- none of the addresses was tracked at first -/
theorem back {H H' : Hp} {a : Addr} (s : Same H H') (h : H' a = none) : H a = none := s.free h
end Rb
/-! Rules that the hand layer lacks: match on a tuple whose first part is a word. -/
namespace Rb
open PySem PySem.Spec PyProof.Rows L2

/-- a pattern: what it makes of a value (none: it does not match), the names by their slots -/
abbrev TPt := V → Hp → Option (List (Nat × V)) → Prop
abbrev TPs := List V → Hp → Option (List (Nat × V)) → Prop
def BindR (X : Cx) (p : Nat × V) (q : Str × Value) : Prop :=
  X.N[p.1]? = some q.1 ∧ Loc X.env.scope q.1 ∧ (X.fn q.1 = true ∨ X.env.scope.names.lookup q.1 = some .local) ∧ RelV p.2 q.2
def BindO (X : Cx) : Option (List (Nat × V)) → Option (List (Str × Value)) → Prop
  | none, none => True
  | some bs, some ns => Paired (BindR X) bs ns
  | _, _ => False
structure PPt (X : Cx) (p : Pattern) (t : TPt) : Prop where
  run : ∀ (pins : List (Addr × Obj)) (s : Shared) (σ : L2.St) (H : Hp) (v : V) (u : Value) (r : Option (List (Nat × V))), Inv X pins σ H s → RelV v u → t v H r →
    wpAny (model X.prog X.w) X.A (matchPattern p X.env u) (fun r' s' => Inv X pins σ H s' ∧ BindO X r r') X.xe s
structure PPs (X : Cx) (ps : List Pattern) (t : TPs) : Prop where
  run : ∀ (pins : List (Addr × Obj)) (s : Shared) (σ : L2.St) (H : Hp) (vs : List V) (us : List Value) (r : Option (List (Nat × V))), Inv X pins σ H s → Vals vs us → t vs H r →
    wpAny (model X.prog X.w) X.A (matchEach ps X.env us) (fun r' s' => Inv X pins σ H s' ∧ BindO X r r') X.xe s
theorem paired_app {α β : Type} {R : α → β → Prop} : ∀ {xs ys : List α} {us ws : List β}, Paired R xs us → Paired R ys ws → Paired R (xs ++ ys) (us ++ ws)
  | _, _, _, _, .nil, s => s
  | _, _, _, _, .cons r t, s => .cons r (paired_app t s)
section
variable {X : Cx} {pos : Pos}
/-- a written word -/
def mWord (x : Str) : TPt := fun v _ r => ∃ y, v = .str y ∧ r = if y == x then some [] else none
theorem pm_word {x : Str} {k p2} : PPt X (.MatchValue (.Constant (.str x) k p2) pos) (mWord x) := by
  refine ⟨fun pins s σ H v u r I rv h => ?_⟩
  obtain ⟨y, e1, e2⟩ := h
  subst e1
  obtain ⟨t, rfl⟩ := rv
  refine wpAny_matchPattern_Value (Calls.Constant_str ?_)
  refine PyProof.Rows.eq_str ?_
  refine wpAny_truthy_bool ?_
  have I2 := I.tok (s.toks + 1)
  subst e2
  cases y == x with
  | true =>
    rw [if_pos rfl]
    exact ⟨I2, Paired.nil⟩
  | false =>
    rw [if_neg Bool.false_ne_true]
    exact ⟨I2, trivial⟩
/-- a name -/
def mName (i : Nat) : TPt := fun v _ r => r = some [(i, v)]
theorem pm_name {i : Nat} {x : Str} (hi : X.N[i]? = some x) (hx : Loc X.env.scope x) (hf : X.fn x = true ∨ X.env.scope.names.lookup x = some .local := by first | exact .inl rfl | exact .inr rfl | assumption) :
    PPt X (.MatchAs none (some x) pos) (mName i) := by
  refine ⟨fun pins s σ H v u r I rv h => ?_⟩
  subst h
  exact wpAny_matchPattern_Capture ⟨I, .cons ⟨hi, hx, hf, rv⟩ .nil⟩
/-- _ -/
def mAny : TPt := fun _ _ r => r = some []
theorem pm_any : PPt X (.MatchAs none none pos) mAny := by
  refine ⟨fun pins s σ H v u r I rv h => ?_⟩
  subst h
  exact wpAny_matchPattern_Capture ⟨I, .nil⟩
def mNil : TPs := fun vs _ r => vs = [] ∧ r = some []
def mCons (t : TPt) (u : TPs) : TPs := fun vs H r => ∃ v w, vs = v :: w ∧ ((t v H none ∧ r = none) ∨ ∃ bs r2, t v H (some bs) ∧ u w H r2 ∧ r = r2.map (bs ++ ·))
theorem pms_nil : PPs X [] mNil := by
  refine ⟨fun pins s σ H vs us r I rv h => ?_⟩
  obtain ⟨e, e2⟩ := h
  subst e e2
  exact wpAny_matchEach_nil ⟨I, .nil⟩
theorem pms_cons {p : Pattern} {ps : List Pattern} {t : TPt} {u : TPs} (h1 : PPt X p t) (h2 : PPs X ps u) (hp : p.isStar = false := by rfl) : PPs X (p :: ps) (mCons t u) := by
  refine ⟨fun pins s σ H vs us r I rv h => ?_⟩
  obtain ⟨v, w, e, h⟩ := h
  subst e
  cases rv with
  | cons r1 rr =>
    refine wpAny_matchEach_cons ?_ hp
    rcases h with ⟨h, e⟩ | ⟨bs, r2, ha, hb, e⟩
    · subst e
      refine thn (h1.run pins s σ H _ _ _ I r1 h) fun r' s1 ⟨I1, b⟩ => ?_
      cases r' with
      | none => exact ⟨I1, trivial⟩
      | some _ => exact b.elim
    · subst e
      refine thn (h1.run pins s σ H _ _ _ I r1 ha) fun r' s1 ⟨I1, b⟩ => ?_
      cases r' with
      | none => exact b.elim
      | some bs' =>
        refine thn (h2.run pins s1 σ H _ _ _ I1 rr hb) fun r'' s2 ⟨I2, b2⟩ => ?_
        cases r2 with
        | none =>
          cases r'' with
          | none => exact ⟨I2, trivial⟩
          | some _ => exact b2.elim
        | some q =>
          cases r'' with
          | none => exact b2.elim
          | some q' => exact ⟨I2, paired_app b b2⟩
/-- a tuple of so many parts -/
def mSeq (K : PySem.W.Frag) (n : Nat) (t : TPs) : TPt := fun v H r => ∃ a xs, v = .ref a ∧ SqT K H a xs ∧ ((xs.length ≠ n ∧ r = none) ∨ (xs.length = n ∧ t xs H r))
theorem pm_seq {ps : List Pattern} {n : Nat} {t : TPs} (hc : X.calm = true) (h : PPs X ps t) (hn : ps.length = n := by rfl)
    (hstar : ps.findIdx? (·.isStar) = none := by rfl) (hwild : (ps.all fun p => p.isWildcard || (p.isStar && p.names.isEmpty)) = false := by rfl) : PPt X (.MatchSequence ps pos) (mSeq X.K n t) := by
  refine ⟨fun pins s σ H v u r I rv hw => ?_⟩
  obtain ⟨a, xs, e1, hq, hw⟩ := hw
  subst e1 hn
  cases rv
  obtain ⟨its, rv, ht, hz⟩ := I.tuple hq
  have el := rv.length
  have hf : ((its.toArray.size : Nat) : Int) < 2 ^ 63 := by
    rw [sizeLine_eq] at hz
    simp only [List.size_toArray]
    omega
  rcases hw with ⟨hl, e⟩ | ⟨hl, hw⟩
  · subst e
    exact matchSeq_tuple_miss ht hf (by simp only [List.size_toArray]; omega) ⟨I.tok _, trivial⟩ hstar hwild
  · refine matchSeq_tuple_hit ht hf (by simp only [List.size_toArray]; omega) ?_ hstar hwild
    have e2 : ps.length = its.toArray.size := by simp only [List.size_toArray]; omega
    rw [e2]
    refine unpackItems_tuple (I.ok.hd hc) ht fun h' hx => ?_
    have I1 : Inv X pins σ H { s with heap := h', toks := s.toks + 1 + 1 } := I.kept (t' := s.toks + 1 + 1) fun b o e => hx b o (Nat.ne_of_lt (Heap.lt_size e)) e
    exact h.run pins _ σ H xs _ r I1 (by simpa using rv) hw

/-! ### the cases -/
abbrev TMs := V → TS
def setAll : L2.St → List (Nat × V) → L2.St
  | σ, [] => σ
  | σ, p :: ps => setAll (σ.set p.1 (some p.2)) ps
structure PMs (X : Cx) (cs : List MatchCase) (t : TMs) : Prop where
  run : ∀ (first : Bool) (pins : List (Addr × Obj)) (s : Shared) (σ : L2.St) (H : Hp) (D : Ends) (v : V) (u : Value), Inv X pins σ H s → RelV v u → t v D σ H →
    wpAny (model X.prog X.w) X.A (matchCases cs X.env u first) (SP X pins D) X.xe s
def cNil : TMs := fun _ D σ H => D.nx σ H
/-- a case, then the rest -/
def cCons (t : TPt) (b : TS) (rest : TMs) : TMs := fun v D σ H => (t v H none ∧ rest v D σ H) ∨ ∃ bs, t v H (some bs) ∧ b D (setAll σ bs) H
theorem pc_nil : PMs X [] cNil := ⟨fun _ _ _ σ H _ _ _ I _ h => wpAny_matchCases_nil ⟨σ, H, I, h⟩⟩
theorem binds_all (hN : X.N.Nodup) {Q : Unit → Shared → Prop} {pins : List (Addr × Obj)} {H : Hp} : ∀ {bs : List (Nat × V)} {ns : List (Str × Value)} {σ : L2.St} {s : Shared}, Paired (BindR X) bs ns → Inv X pins σ H s →
    (∀ s', Inv X pins (setAll σ bs) H s' → Q () s') → wpAny (model X.prog X.w) X.A (assignInOrder (ns.map fun x => match x with | (n, _) => bindName X.env n) (ns.map (·.2))) Q X.xe s
  | _, _, _, _, .nil, I, h => assignInOrder_nil (h _ I)
  | _, _, _, _, .cons r t, I, h => by
    obtain ⟨hi, hx, hf, rv⟩ := r
    exact assignInOrder_cons (wpAny_bindName (store_ok I hN hi hx rv (fun s1 I1 => binds_all hN t I1 h) hf))
theorem pc_cons {p : Pattern} {body : List Stmt} {rest : List MatchCase} {t : TPt} {b : TS} {u : TMs} (hN : X.N.Nodup) (hp : PPt X p t) (hb : PSs X body b) (hr : PMs X rest u) :
    PMs X (⟨p, none, body⟩ :: rest) (cCons t b u) := by
  refine ⟨fun first pins s σ H D v w I rv h => ?_⟩
  refine wpAny_matchCases_cons ?_
  rcases h with ⟨h1, h2⟩ | ⟨bs, h1, h2⟩
  · refine thn (hp.run pins s σ H _ _ _ I rv h1) fun r' s1 ⟨I1, q⟩ => ?_
    cases r' with
    | none => exact hr.run false pins s1 σ H D v w I1 rv h2
    | some _ => exact q.elim
  · refine thn (hp.run pins s σ H _ _ _ I rv h1) fun r' s1 ⟨I1, q⟩ => ?_
    cases r' with
    | none => exact q.elim
    | some ns => exact binds_all hN q I1 fun s2 I2 => hb.run pins s2 _ H D I2 h2
def tMatch (te : TE) (tc : TMs) : TS := fun D σ H => te σ H fun v H1 => tc v D σ H1
theorem ps_match {e : Expr} {cs : List MatchCase} {te : TE} {tc : TMs} (he : PE X e te) (hc : PMs X cs tc) : PS X (.Match e cs pos) (tMatch te tc) := by
  refine ⟨fun pins s σ H D I h => ?_⟩
  exact wpAny_Match (thn (he.run pins s σ H _ I h) fun u s1 ⟨v, H1, I1, r1, q1⟩ => hc.run true pins s1 σ H1 D v u I1 r1 q1)
end
/-! ### readings: a word and its parts -/
section
variable {K : PySem.W.Frag} {H : Hp} {a : Addr} {x y : Str} {rest : List V} {n : Nat} {t : TPs} {b : TS} {u : TMs} {D : Ends} {σ : L2.St} {bs : List (Nat × V)}
theorem miss_word (h : SqT K H a (.str y :: rest)) (hy : (y == x) = false) (q : u (.ref a) D σ H) : cCons (mSeq K n (mCons (mWord x) t)) b u (.ref a) D σ H := by
  refine .inl ⟨⟨a, _, rfl, h, ?_⟩, q⟩
  by_cases e : (V.str y :: rest).length = n
  · exact .inr ⟨e, _, _, rfl, .inl ⟨⟨y, rfl, by rw [hy]; rfl⟩, rfl⟩⟩
  · exact .inl ⟨e, rfl⟩
theorem hit_word (h : SqT K H a (.str x :: rest)) (hn : (V.str x :: rest).length = n) (ht : t rest H (some bs)) (q : b D (setAll σ bs) H) : cCons (mSeq K n (mCons (mWord x) t)) b u (.ref a) D σ H := by
  refine .inr ⟨bs, ⟨a, _, rfl, h, .inr ⟨hn, _, _, rfl, .inr ⟨[], some bs, ⟨x, rfl, ?_⟩, ht, rfl⟩⟩⟩, q⟩
  simp
theorem mn_nil : mNil [] H (some []) := ⟨rfl, rfl⟩
theorem mn_name {i : Nat} {v : V} {w : List V} (h : t w H (some bs)) : mCons (mName i) t (v :: w) H (some ((i, v) :: bs)) := ⟨_, _, rfl, .inr ⟨[(i, v)], _, rfl, h, rfl⟩⟩
theorem mn_any {v : V} {w : List V} (h : t w H (some bs)) : mCons mAny t (v :: w) H (some bs) := ⟨_, _, rfl, .inr ⟨[], _, rfl, h, rfl⟩⟩
end
end Rb
/-! a, .., *rest = a tuple: the rest becomes a new list. -/
namespace Rb
open PySem PySem.Spec PyProof.Rows L2
section
variable {prog : Program} {w : World} {A : Around} {E : Value → Shared → Prop} {s : Shared}
theorem rest_items {l : Addr} {its : Array Value} {i : Nat} {Q : List Value → Shared → Prop} (hl : IsTup s.heap l its) (hh : A.handled = none) (hi : i ≤ its.size) (hz : its.size ≤ sizeLine)
    (h : ∀ (h1 : Heap) (tk : Nat), (∀ b o, s.heap.get? b = some o → h1.get? b = some o) →
      Q (its.toList.take i ++ [.ref h1.objs.size]) { s with heap := h1.push { cls := .type "list", data := .seq (its.toList.drop i).toArray }, toks := tk }) :
    wpAny (model prog w) A (unpackItems (.ref l) (i + 1) (some i)) Q E s := by
  have ll : l < s.heap.objs.size := by
    obtain ⟨o, ho, _⟩ := hl
    exact Heap.lt_size ho
  have ne : l ≠ s.heap.objs.size := Nat.ne_of_lt ll
  unfold unpackItems
  refine wpAny_bind ?_
  unfold notIterableAtAll
  refine wpAny_bind (wpAny_specialOf hl.typeIs slot_tuple_iter.lookup (wpAny_pure ?_))
  simp only [Bool.false_eq_true, if_false]
  refine wpAny_bind (wpAny_holding (iter_tuple hl ?_))
  refine wpAny_bind (wpAny_holding (draw_tuple ne i 0 _ _ ⟨_, Heap.get?_push_size _ rfl, rfl, rfl⟩ (hl.push _) (by omega) fun h1 t1 k1 => ?_))
  rw [Nat.zero_add] at t1
  have l1 : IsTup h1 l its := (hl.push _).extBut k1.extBut ne
  have z1 : s.heap.objs.size < h1.objs.size := by
    obtain ⟨o, ho, _⟩ := id t1
    exact Heap.lt_size ho
  have zl : l < h1.objs.size := Nat.lt_trans ll z1
  rw [List.drop_zero, if_neg (by rw [List.length_take, Array.length_toList]; omega)]
  refine wpAny_bind (wpAny_holding (PySem.W.kun_collect (s := { s with heap := h1 }) (T := "tuple_iterator") (.inr (.inr (.inr rfl))) (Walks.tuple (A := A.in1) hh s.heap.objs.size l ne its) (fun j u st => st.1.typeIs) hi ⟨t1, l1⟩ z1 zl (fun h2 tk k2 => ?_) hz))
  have e0 : i + 1 - 1 - i = 0 := by omega
  rw [e0, if_neg (Nat.not_lt_zero _), Nat.sub_zero, List.take_length, List.drop_length]
  refine wpAny_bind (wpAny_newList (wpAny_pure ?_) (by rw [List.length_drop, Array.length_toList]; omega))
  rw [List.append_nil]
  exact h h2 tk fun b o e => k2 b o (Nat.ne_of_lt (Heap.lt_size e)) (k1.extBut b o (Nat.ne_of_lt (Heap.lt_size e)) (Heap.get?_push_of_some _ e))
end
section
variable {X : Cx} {pos : Pos}
/-- a, .., *rest = a tuple; n names before the rest -/
def gStar (K : PySem.W.Frag) (n : Nat) (t : TGs) : TG := fun v σ H Q => ∃ a xs, v = .ref a ∧ SqT K H a xs ∧ n ≤ xs.length ∧ ∀ d, H d = none → t (xs.take n ++ [.ref d]) σ (upd H d (.lst (xs.drop n))) Q
theorem pg_star {es es' : List Expr} {k n : Nat} {t : TGs} (hc : X.calm = true) (h : PGs X es' t)
    (hn : (assignEach es X.env).length = n + 1 := by rfl) (hst : (assignEach es X.env).findIdx? (·.1) = some n := by rfl)
    (hm : (assignEach es X.env).map (·.2) = (assignEach es' X.env).map (·.2) := by rfl) : PG X (.Tuple es k pos) (gStar X.K n t) := by
  refine ⟨fun pins s σ H v u Q I r hw => ?_⟩
  obtain ⟨a, xs, e1, hq, hl, hw⟩ := hw
  subst e1
  cases r
  obtain ⟨its, rv, ht, hz⟩ := I.tuple hq
  have el := rv.length
  rw [assign_Tuple]
  refine wpAny_bind (wpAny_standAt ?_)
  unfold unpack
  rw [hn, hst]
  refine wpAny_bind (wpAny_holding (rest_items ht (I.ok.hd hc) (by simp only [List.size_toArray]; omega) (by simp only [List.size_toArray]; omega) fun h1 tk kk => ?_))
  have I1 : Inv X pins σ H { s with heap := h1, toks := tk } := I.kept (t' := tk) kk
  have hd : H h1.objs.size = none := I1.hok.fresh (Nat.le_refl _)
  have I2 : Inv X pins σ (upd H h1.objs.size (.lst (xs.drop n))) { s with heap := h1.push { cls := .type "list", data := .seq (its.drop n).toArray }, toks := tk } :=
    I1.laid (t' := tk) (fun b o e => Heap.get?_push_of_some _ e) (Nat.le_refl _) ⟨by rw [List.length_drop]; omega, _, 0, Vals.drop n rv, Heap.get?_push_size _ rfl⟩
  rw [hm]
  exact h.run pins _ σ _ _ _ Q I2 (Vals.append (Vals.take n rv) (.cons (show L2.RelV (.ref h1.objs.size) (Value.ref h1.objs.size) from rfl) .nil)) (hw _ hd)
end
end Rb
/-! zip of a tuple and a list. -/
namespace Rb
open PySem PySem.Spec PyProof.Rows L2

/-- the tuple at a and the list at b as they stand at each turn, the items in new pairs -/
def ItzM (K : PySem.W.Frag) (a b : Addr) : It :=
  ⟨fun i H => ∃ (xs ys : List V) (x y : V), SqT K H a xs ∧ SqL K H b ys ∧ xs[i]? = some x ∧ ys[i]? = some y,
    fun i H v H' => ∃ T x y, v = .ref T ∧ H T = none ∧ H' = upd H T (.tup [x, y]) ∧ (∀ xs, SqT K H a xs → xs[i]? = some x) ∧ ∀ ys, SqL K H b ys → ys[i]? = some y,
    fun i H => ∃ xs ys : List V, SqT K H a xs ∧ SqL K H b ys ∧ i ≤ xs.length ∧ i ≤ ys.length ∧ (i = xs.length ∨ i = ys.length)⟩
theorem zip_sep {z TI TO i1 i2 a b : Addr} (D : ZipApart z TI TO i1 i2 a b) : ZipSep2 z TI TO i1 i2 [i1, a] [i2, b] where
  TIz := D.TIz
  TOz := D.TOz
  TITO := D.TITO
  TIi1 := D.TIi1
  mem1 := by simp
  zf1 := by simp [D.i1z.symm, D.l1z.symm]
  Tf1 := by simp [D.TOi1, D.l1TO.symm]
  TIi2 := D.TIi2
  mem2 := by simp
  zf2 := by simp [D.i2z.symm, D.l2z.symm]
  Tf2 := by simp [D.TOi2, D.l2TO.symm]
  sep1_2 := by simp [D.i12, D.l2i1.symm]
  sep2_1 := by simp [D.i12.symm, D.l1i2.symm]
def tnM (z TI TO i1 i2 a b : Addr) (i : Nat) (h : Heap) : Prop :=
  IsZip h z TI TO .none ∧ IsPair h TI (.ref i1) (.ref i2) ∧ (∃ x y, IsPair h TO x y) ∧ h.IsTupleIter i1 a i ∧ h.IsListIter i2 b i
theorem turn_zipM {P : Program} {w : World} {K : PySem.W.Frag} {elts : List Expr} {kk : Nat} {tpos : Pos} {a b z TI TO i1 i2 : Addr} (D : ZipApart z TI TO i1 i2 a b) :
    Turn P w K (.Tuple elts kk tpos) (ItzM K a b) [z, TI, TO, i1, i2] z (tnM z TI TO i1 i2 a b) where
  mem := by simp
  obj := fun i h st c hc => by
    obtain ⟨hz, hTI, ⟨x, y, hTO⟩, ⟨o1, e1, _, d1⟩, ⟨o2, e2, _, d2⟩⟩ := st
    simp only [List.mem_cons, List.not_mem_nil, or_false] at hc
    rcases hc with rfl | rfl | rfl | rfl | rfl
    · exact ⟨_, hz, fun v q => nomatch q⟩
    · exact ⟨_, hTI, fun v q => nomatch q⟩
    · exact ⟨_, hTO, fun v q => nomatch q⟩
    · exact ⟨o1, e1, fun v q => by rw [d1] at q; cases q⟩
    · exact ⟨o2, e2, fun v q => by rw [d2] at q; cases q⟩
  keep := fun i h h' st k => by
    obtain ⟨hz, hTI, ⟨x, y, hTO⟩, h1, h2⟩ := st
    exact ⟨k z (by simp) _ hz, k TI (by simp) _ hTI, ⟨x, y, k TO (by simp) _ hTO⟩, h1.at fun o q => k i1 (by simp) o q, h2.at fun o q => k i2 (by simp) o q⟩
  item := by
    intro X hP hw hK hc i pins s σ H E I hf st hg
    subst hP hw hK
    obtain ⟨hz, hTI, ⟨x0, y0, hTO⟩, h1, h2⟩ := st
    obtain ⟨xs, ys, x, y, qx, qy, hx, hy⟩ := hg
    obtain ⟨its, rv, p, _⟩ := I.tuple qx
    obtain ⟨its2, rv2, p2, _⟩ := I.list qy
    obtain ⟨u, hu, ru⟩ := rv.get hx
    obtain ⟨u2, hu2, ru2⟩ := rv2.get hy
    have S := zip_sep D
    have hzl : z < s.heap.objs.size := Heap.lt_size hz
    have D1 : Draws X.prog X.w X.A.in1 i1 [i1, a] its.toArray.size (fun i v => its.toArray[i]? = some v) (fun i h => h.IsTupleIter i1 a i ∧ h.IsTuple a its.toArray) := Draws.tuple (A := X.A.in1) (I.ok.hd hc) i1 a D.l1i1 its.toArray
    have D2 : Draws X.prog X.w X.A.in1 i2 [i2, b] its2.toArray.size (fun i v => its2.toArray[i]? = some v) (fun i h => h.IsListIter i2 b i ∧ h.IsList b its2.toArray) := Draws.list (A := X.A.in1) (I.ok.hd hc) i2 b D.l2i2 its2.toArray
    have l1 : i < its.toArray.size := by
      have := (List.getElem?_eq_some_iff.mp hu).1
      simpa using this
    have l2 : i < its2.toArray.size := by
      have := (List.getElem?_eq_some_iff.mp hu2).1
      simpa using this
    refine wpAny_pyNext_zipD2_item S D1 D2 hz hTI hTO ⟨h1, p⟩ ⟨h2, p2.isList⟩ l1 l2 fun v1 v2 h' tk w1 w2 z' TO' st1' st2' hT hsz hk => ?_
    have e1 : v1 = u := by
      simp only [List.getElem?_toArray, hu] at w1
      exact (Option.some.inj w1).symm
    have e2 : v2 = u2 := by
      simp only [List.getElem?_toArray, hu2] at w2
      exact (Option.some.inj w2).symm
    subst e1 e2
    refine ⟨_, rfl, wpAny_letOwnedTupleGo_zip (s := { s with heap := h', toks := tk }) z' fun h'' z'' sb => ?_⟩
    have hT2 : h''.get? s.heap.objs.size = some { cls := .type "tuple", data := .seq #[v1, v2] } := (sb.2 _ (Nat.ne_of_gt hzl)).trans hT
    have new : ObjOk X.prog X.w (upd H s.heap.objs.size (.tup [x, y])) h'' s.heap.objs.size (.tup [x, y]) :=
      ⟨by show 2 ≤ sizeLine; decide, [v1, v2], .cons ru (.cons ru2 .nil), ⟨_, hT2, rfl, _, rfl⟩⟩
    have I1 : Inv X pins σ (upd H s.heap.objs.size (.tup [x, y])) { s with heap := h'', toks := tk } :=
      I.turnedNew (t' := tk) (ch := [z, TI, TO, i1, i2]) (fun c o hb q => (sb.2 c (fun q' => hb (by simp [q']))).trans (hk c o (fun q' => hb (by simp [q'])) (fun q' => hb (by simp [q'])) (fun q' => hb (by simp [q'])) (fun q' => hb (by simp [q'])) q)) hf (Nat.le_refl _) new
    refine ⟨.ref s.heap.objs.size, _, I1, rfl, ⟨_, x, y, rfl, I.hok.fresh (Nat.le_refl _), rfl, fun l hl => by rw [I.tuple_inj hl qx]; exact hx, fun l hl => by rw [I.list_inj hl qy]; exact hy⟩, ⟨z'', ?_, ⟨v1, v2, ?_⟩, ?_, ?_⟩, fun c hcm => ?_⟩
    · exact (sb.2 _ D.TIz).trans (hk _ _ D.TIz D.TITO D.TIi1 D.TIi2 hTI)
    · exact (sb.2 _ D.TOz).trans TO'
    · exact st1'.1.at fun o q => (sb.2 _ D.i1z).trans q
    · exact st2'.1.at fun o q => (sb.2 _ D.i2z).trans q
    · have hlt : c < s.heap.objs.size := by
        simp only [List.mem_cons, List.not_mem_nil, or_false] at hcm
        rcases hcm with rfl | rfl | rfl | rfl | rfl
        · exact hzl
        · exact Heap.lt_size hTI
        · exact Heap.lt_size hTO
        · obtain ⟨_, e1, _⟩ := h1
          exact Heap.lt_size e1
        · obtain ⟨_, e2, _⟩ := h2
          exact Heap.lt_size e2
      rw [upd_ne (Nat.ne_of_lt hlt)]
      exact (hf c hcm).1
  done := by
    intro X hP hw hK hc i pins s σ H E I hf st hg
    subst hP hw hK
    obtain ⟨hz, hTI, ⟨x0, y0, hTO⟩, h1, h2⟩ := st
    obtain ⟨xs, ys, qx, qy, g1, g2, hend⟩ := hg
    obtain ⟨its, rv, p, _⟩ := I.tuple qx
    obtain ⟨its2, rv2, p2, _⟩ := I.list qy
    have l1 := rv.length
    have l2 := rv2.length
    have S := zip_sep D
    have D1 : Draws X.prog X.w X.A.in1 i1 [i1, a] its.toArray.size (fun i v => its.toArray[i]? = some v) (fun i h => h.IsTupleIter i1 a i ∧ h.IsTuple a its.toArray) := Draws.tuple (A := X.A.in1) (I.ok.hd hc) i1 a D.l1i1 its.toArray
    have D2 : Draws X.prog X.w X.A.in1 i2 [i2, b] its2.toArray.size (fun i v => its2.toArray[i]? = some v) (fun i h => h.IsListIter i2 b i ∧ h.IsList b its2.toArray) := Draws.list (A := X.A.in1) (I.ok.hd hc) i2 b D.l2i2 its2.toArray
    refine wpAny_pyNext_zipD2_end S D1 D2 hz hTI hTO ⟨h1, p⟩ ⟨h2, p2.isList⟩ (by simp only [List.size_toArray]; omega) (by simp only [List.size_toArray]; omega) (by simp only [List.size_toArray]; omega) fun h' tk hk => ⟨rfl, ?_⟩
    exact I.turnedL (t' := tk) (ch := [z, TI, TO, i1, i2]) (fun c o hb q => hk c o (fun q' => hb (by simp [q'])) (fun q' => hb (by simp [q'])) (fun q' => hb (by simp [q'])) (fun q' => hb (by simp [q'])) q) hf
  self := fun A i s Q E st h => wpAny_pyIter_zip st.1 h

def iZipM (K : PySem.W.Frag) (ta : TA) : TI := fun σ H R => ta σ H fun vs H1 => ∃ a b xs ys, vs = [.ref a, .ref b] ∧ SqT K H1 a xs ∧ SqL K H1 b ys ∧ R (ItzM K a b) H1
theorem pi_zipM {X : Cx} {e e2 : Expr} {ta : TA} {p pos tpos : Pos} {elts : List Expr} {kk : Nat} (hg : Gl X "zip") (hm : X.mg "zip" = none) (ha : PA X [e, e2] ta)
    (hs : starEach [e, e2] X.env = (false, eval e X.env) :: starEach [e2] X.env := by rfl) (hpl : (backTo pos (starEach [e2] X.env)).any (·.1) = false := by rfl) :
    PI X (.Tuple elts kk tpos) (.Call (.Name "zip" p) [e, e2] [] pos) (iZipM X.K ta) := by
  refine ⟨fun pins s σ H R I h => ?_⟩
  refine Call_ (ld_blt I hg hm PyProof.Rows.boot_zip (PyProof.Rows.callWith_type1 (thn (ha.run pos pins s σ H _ I h) fun us s1 ⟨vs, H1, I1, r1, q1⟩ => ?_) hs hpl))
  obtain ⟨a, b, xs, ys, ex, qx, qy, q⟩ := q1
  subst ex
  cases r1 with
  | cons r rr =>
    cases rr with
    | cons r' rr =>
      cases rr
      cases r
      cases r'
      obtain ⟨its, rv, p1, _⟩ := I1.tuple qx
      obtain ⟨its2, rv2, p2, _⟩ := I1.list qy
      have lo : a < s1.heap.objs.size := by
        obtain ⟨o1, ho1, _⟩ := id p1
        exact Heap.lt_size ho1
      refine zip_begins2 (begins_tuple a its.toArray) (begins_list b its2.toArray) p1 p2.isList fun h' hz hTI hTO g1 g2 hsz hk => wpAny_pyIter_zip hz ?_
      have I2 : Inv X pins σ H1 { s1 with heap := h' } := I1.kept (t' := s1.toks) hk
      refine ⟨s1.heap.objs.size + 4, [s1.heap.objs.size + 4, s1.heap.objs.size + 2, s1.heap.objs.size + 3, s1.heap.objs.size, s1.heap.objs.size + 1], _, _, H1, rfl, I2, turn_zipM (PySem.W.ktu_apart s1.heap.objs.size a b lo p2.lt), ⟨hz, hTI, ⟨_, _, hTO⟩, ⟨_, g1, rfl, rfl⟩, ⟨_, g2, rfl, rfl⟩⟩, fun c hcm => ?_, q⟩
      have hle : s1.heap.objs.size ≤ c := by
        simp only [List.mem_cons, List.not_mem_nil, or_false] at hcm
        rcases hcm with rfl | rfl | rfl | rfl | rfl
        · exact Nat.le_add_right _ _
        · exact Nat.le_add_right _ _
        · exact Nat.le_add_right _ _
        · exact Nat.le_refl _
        · exact Nat.le_add_right _ _
      exact I1.fpOk hle (I1.hok.fresh hle)
/-- (a, b, ..) = a tuple, the written part by name (within a comprehension's block) -/
theorem pg_tupK {X : Cx} {K : PySem.W.Frag} {pos : Pos} {es : List Expr} {k : Nat} {t : TGs} {n : Nat} (hK : X.K = K) (hc : X.calm = true) (h : PGs X es t)
    (hn : (assignEach es X.env).length = n := by rfl) (hst : (assignEach es X.env).findIdx? (·.1) = none := by rfl) : PG X (.Tuple es k pos) (gTup K n t) := by
  subst hK
  exact pg_tup hc h hn hst
/-- a comprehension over a tuple and a list of one length -/
theorem lc_zipM {K : PySem.W.Frag} {a b : Addr} {xs ys : List V} {g : TG} {tt : TT} {te : TE} {vs : List Nat} {σ : L2.St} {H1 : Hp} {D : Addr} {Qd : Hp → Prop} (hl : xs.length = ys.length) (Pv : Nat → Hp → Prop) (h0 : Pv 0 (upd H1 D (.lst [])))
    (hq : ∀ i H, Pv i H → SqT K H a xs ∧ SqL K H b ys)
    (hs : ∀ i x y T H, xs[i]? = some x → ys[i]? = some y → Pv i H → H T = none → g (.ref T) (wipe σ vs) (upd H T (.tup [x, y])) fun σ2 H2 => wipe σ2 vs = wipe σ vs ∧ tt σ2 H2 fun b H3 =>
      if b = true then te σ2 H3 fun y H4 => ∃ acc, H4 D = some (.lst acc) ∧ acc.length < sizeLine ∧ Pv (i + 1) (upd H4 D (.lst (acc ++ [y]))) else Pv (i + 1) H3) (hd : ∀ H, Pv xs.length H → Qd H) :
    ∃ W : Nat → Nat → Hp → Prop, (∃ m, W 0 m (upd H1 D (.lst []))) ∧ ∀ i m H, W i m H →
      ((ItzM K a b).stop i H ∧ Qd H) ∨ ((ItzM K a b).go i H ∧ ∃ Nx : Hp → Prop, (∀ H', Nx H' → ∃ m', m' < m ∧ W (i + 1) m' H') ∧ ∀ x H', (ItzM K a b).yld i H x H' → g x (wipe σ vs) H' fun σ2 H2 => wipe σ2 vs = wipe σ vs ∧ tt σ2 H2 fun b H3 =>
        if b = true then te σ2 H3 fun y H4 => ∃ acc, H4 D = some (.lst acc) ∧ acc.length < sizeLine ∧ Nx (upd H4 D (.lst (acc ++ [y]))) else Nx H3) := by
  refine ⟨fun i m H => m = xs.length - i ∧ i ≤ xs.length ∧ Pv i H, ⟨xs.length, by simp, Nat.zero_le _, h0⟩, ?_⟩
  rintro i m H ⟨rfl, hi, p⟩
  obtain ⟨qx, qy⟩ := hq i H p
  by_cases hlt : i < xs.length
  · have hx : xs[i]? = some xs[i] := List.getElem?_eq_getElem hlt
    have hlt2 : i < ys.length := by omega
    have hy : ys[i]? = some ys[i] := List.getElem?_eq_getElem hlt2
    refine .inr ⟨⟨xs, ys, _, _, qx, qy, hx, hy⟩, Pv (i + 1), fun H' p' => ⟨xs.length - (i + 1), by omega, rfl, hlt, p'⟩, fun x H' y => ?_⟩
    obtain ⟨T, x', y', rfl, hT, rfl, f1, f2⟩ := y
    exact hs i x' y' T H (f1 xs qx) (f2 ys qy) p hT
  · have e : i = xs.length := by omega
    subst e
    exact .inl ⟨⟨xs, ys, qx, qy, Nat.le_refl _, by omega, .inl rfl⟩, hd H p⟩
end Rb
/-! A written table of the module: a word's value is a pair of tuples of words. -/
namespace Rb
open PySem PySem.Spec PyProof.Rows L2
/-- the address of the value at a key -/
def adv (K : PySem.W.Frag) (d : Addr) (key : Str) : Addr := match PySem.W.nsIn K d key with
  | some (some (.ref a)) => a
  | _ => 0
/-- the address of an item of a tuple -/
def adi (K : PySem.W.Frag) (a : Addr) (i : Nat) : Addr := match K.lookup a with
  | some ⟨_, _, .seq its _, _⟩ => (match its[i]? with
    | some (.ref b) => b
    | _ => 0)
  | _ => 0
def tupAt (K : PySem.W.Frag) (a : Addr) (vs : List V) : Bool := match K.lookup a with
  | some ⟨.type c, _, .seq its _, _⟩ => decide (c = "tuple") && (decide (its.size ≤ sizeLine) && He.relAll vs its.toList)
  | _ => false
theorem tupAt_ok {K : PySem.W.Frag} {a : Addr} {vs : List V} (h : tupAt K a vs = true) (H : Hp) : SqT K H a vs := by
  unfold tupAt at h
  split at h
  · rename_i c dd its n sl q
    obtain ⟨h1, h2⟩ := and2 h
    obtain ⟨h3, h4⟩ := and2 h2
    exact .inr ⟨_, its, n, q, congrArg Value.type (of_decide_eq_true h1), rfl, of_decide_eq_true h3, He.relAll_ok h4⟩
  · cases h
def formB (x key : Str) (rs ks : List Str) (K : PySem.W.Frag) : Bool :=
  (match PySem.W.nsIn K (He.ga K x) key with
    | some (some u) => He.relB (.ref (adv K (He.ga K x) key)) u
    | _ => false) && (tupAt K (adv K (He.ga K x) key) [.ref (adi K (adv K (He.ga K x) key) 0), .ref (adi K (adv K (He.ga K x) key) 1)] &&
    (tupAt K (adi K (adv K (He.ga K x) key) 0) (rs.map .str) && tupAt K (adi K (adv K (He.ga K x) key) 1) (ks.map .str)))
/-- the table x has a row: the key's value is a pair of tuples of words -/
structure Form (K : PySem.W.Frag) (x key : Str) (rs ks : List Str) : Prop where
  val : ∃ u, PySem.W.nsIn K (He.ga K x) key = some (some u) ∧ RelV (.ref (adv K (He.ga K x) key)) u
  pair : ∀ H, SqT K H (adv K (He.ga K x) key) [.ref (adi K (adv K (He.ga K x) key) 0), .ref (adi K (adv K (He.ga K x) key) 1)]
  fst : ∀ H, SqT K H (adi K (adv K (He.ga K x) key) 0) (rs.map .str)
  snd : ∀ H, SqT K H (adi K (adv K (He.ga K x) key) 1) (ks.map .str)
theorem form_ok {K : PySem.W.Frag} {x key : Str} {rs ks : List Str} (h : (Ex.fact (formB x key rs ks)).ok K = true) : Form K x key rs ks := by
  obtain ⟨h1, h⟩ := and2 (show formB x key rs ks K = true from h)
  obtain ⟨h2, h⟩ := and2 h
  obtain ⟨h3, h4⟩ := and2 h
  refine ⟨?_, tupAt_ok h2, tupAt_ok h3, tupAt_ok h4⟩
  split at h1
  · rename_i u q
    exact ⟨u, q, He.relB_ok h1⟩
  · cases h1
section
variable {X : Cx}
/-- word not in the table, a word that it has -/
theorem op_notIn_form {x : Str} (D : ∃ es n, KDict X.K X.w (He.ga X.K x) es n) :
    OpR X (compareOp .NotIn) (fun a b H Q => ∃ key rs ks, a = .str key ∧ b = .ref (He.ga X.K x) ∧ Form X.K x key rs ks ∧ Q (.bl false) H) := by
  obtain ⟨es, n, D⟩ := D
  intro pins s σ H a b v u Q I ra rb h
  obtain ⟨key, rs, ks, rfl, rfl, F, q⟩ := h
  obtain ⟨u0, e, _⟩ := F.val
  exact op_notIn_kd D pins s σ H _ _ v u Q I ra rb ⟨key, _, rfl, rfl, e, q⟩
def rIxF (K : PySem.W.Frag) (x : Str) : R2 := fun a b H Q => ∃ key rs ks, a = .ref (He.ga K x) ∧ b = .str key ∧ Form K x key rs ks ∧ Q (.ref (adv K (He.ga K x) key)) H
theorem ix_form {x : Str} (D : ∃ es n, KDict X.K X.w (He.ga X.K x) es n) : IxR X (rIxF X.K x) := by
  obtain ⟨es, n, D⟩ := D
  intro value slice pins s σ H a b v u Q I ra rb h hs
  obtain ⟨key, rs, ks, rfl, rfl, F, q⟩ := h
  obtain ⟨u0, e, r⟩ := F.val
  exact ix_kdict value slice pins s σ H _ _ v u Q I ra rb ⟨_, key, _, rfl, rfl, ⟨es, n, u0, D.at_, D.lit, e, r⟩, q⟩ hs
end
end Rb
/-! A type among types; a tuple behind a list. -/
namespace Rb
open PySem PySem.Spec PyProof.Rows L2
/-- types whose own type is known here -/
def tyKnown (n : String) : Bool := n = "int" || (n = "str" || (n = "bool" || (n = "NoneType" || (n = "list" || (n = "tuple" || n = "dict")))))
theorem tyKnown_is {n : String} (h : tyKnown n = true) : ∀ s : Shared, s.TypeIs (.type n) "type" := by
  unfold tyKnown at h
  simp only [Bool.or_eq_true, decide_eq_true_eq] at h
  rcases h with h | h | h | h | h | h | h
  · subst h
    exact TypeEq.meta_int
  · subst h
    exact TypeEq.meta_str
  · subst h
    exact TypeEq.meta_bool
  · subst h
    exact TypeEq.meta_NoneType
  · subst h
    exact TypeEq.meta_list
  · subst h
    exact TypeEq.meta_tuple
  · subst h
    exact TypeEq.meta_dict
theorem eqAt_ty {A : Around} {s : Shared} {a b : String} (ha : tyKnown a = true) (hb : tyKnown b = true) : SeqAt.EqAt A s (.type a) (.type b) (decide (a = b)) := fun prog w E Q h => by
  by_cases e : a = b
  · subst e
    exact SeqAt.EqAt.same _ prog w E Q (by simpa using h)
  · have ne : (Value.type a == Value.type b) = false := beq_eq_false_iff_ne.mpr fun z => e (by injection z)
    rw [decide_eq_false e] at h
    unfold eqBool
    refine wpAny_holding ?_
    refine wpAny_ite_split (fun z => absurd z (by rw [ne]; simp)) (fun _ => ?_)
    exact wpAny_bind (show wpAny (model prog w) A (richCompare .Eq (.type a) (.type b)) _ E s from TypeEq.eq_type_other (tyKnown_is ha) (tyKnown_is hb) ne (wpAny_truthy_bool h))
def isTyU (a : String) (u : Value) : Bool := match u with
  | .type m => decide (m = a)
  | _ => false
theorem any_tys {a : String} : ∀ {ts : List String} {us : List Value}, Vals (ts.map V.ty) us → us.any (isTyU a) = ts.contains a
  | [], _, .nil => rfl
  | t :: ts, _, .cons r q => by
    cases r
    rw [List.any_cons, any_tys q, List.contains_cons]
    show (decide (t = a) || _) = _
    congr 1
    by_cases e : t = a
    · subst e
      simp
    · rw [decide_eq_false e]
      exact (beq_eq_false_iff_ne.mpr fun z => e z.symm).symm
theorem mem_tys {A : Around} {s : Shared} {a : String} (ha : tyKnown a = true) : ∀ {ts : List String} {us : List Value}, Vals (ts.map V.ty) us → ts.all tyKnown = true → ∀ u ∈ us, SeqAt.EqAt A s u (.type a) (isTyU a u)
  | [], _, .nil, _ => fun u hu => by cases hu
  | t :: ts, _, .cons r q, f => fun u hu => by
    rw [List.all_cons, Bool.and_eq_true] at f
    cases r
    rcases List.mem_cons.mp hu with rfl | hu
    · exact eqAt_ty f.1 ha
    · exact mem_tys ha q f.2 u hu
/-- a type in, or not in, a tuple of types -/
def rTyIn (K : PySem.W.Frag) (neg : Bool) : R2 := fun x y H Q => ∃ (a : String) (p : Addr) (ts : List String), x = .ty a ∧ y = .ref p ∧ SqT K H p (ts.map V.ty) ∧ tyKnown a = true ∧ ts.all tyKnown = true ∧ Q (.bl (if neg then !ts.contains a else ts.contains a)) H
section
variable {X : Cx}
theorem op_notInTy : OpR X (compareOp .NotIn) (rTyIn X.K true) := by
  intro pins s σ H x y v u Q I rx ry h
  obtain ⟨a, p, ts, rfl, rfl, hq, fa, fs, q⟩ := h
  cases rx
  cases ry
  obtain ⟨its, r, pl, hz⟩ := I.tuple hq
  refine SeqAt.notIn_tupleAt (isTyU a) pl (fun w hw => mem_tys fa r fs w (by simpa using hw)) ⟨.bl _, H, I, rfl, ?_⟩
  rw [show its.toArray.any (isTyU a) = its.any (isTyU a) by simp, any_tys r]
  exact q
theorem op_inTy : OpR X (compareOp .In) (rTyIn X.K false) := by
  intro pins s σ H x y v u Q I rx ry h
  obtain ⟨a, p, ts, rfl, rfl, hq, fa, fs, q⟩ := h
  cases rx
  cases ry
  obtain ⟨its, r, pl, hz⟩ := I.tuple hq
  refine SeqAt.in_tupleAt (isTyU a) pl (fun w hw => mem_tys fa r fs w (by simpa using hw)) ⟨.bl _, H, I, rfl, ?_⟩
  rw [show its.toArray.any (isTyU a) = its.any (isTyU a) by simp, any_tys r]
  exact q
end
/-! ### xs.extend(a tuple) -/
theorem ext_tup (l : Addr) (items : Array Value) (n : Nat) (b : Addr) (items2 : Array Value) (n2 : Nat) (dd : Option Addr) (sl : Array (Option Value)) (hs0 : ¬(!items.isEmpty && Builtin.List.listTooLong (items.size + items2.size)) = true)
    (hs1 : items.size ≤ sizeLine) (hs2 : items.size + items2.size ≤ sizeLine + 1) :
    Meets (Builtin.«list.extend» ⟨[.ref l, .ref b], []⟩) (fun _ R s => s.heap.get? l = some { cls := .type "list", dict := none, data := .seq items n, slots := #[] } ∧
      s.heap.get? b = some { cls := .type "tuple", dict := dd, data := .seq items2 n2, slots := sl } ∧
      R (.ok (.ret Value.none)) { s with heap := s.heap.update l (Obj.mapSeq fun x => x ++ items2), toks := s.toks }) :=
  .of_wp fun prog w A R s h => by
    obtain ⟨hp, g, d, tk, os⟩ := s
    obtain ⟨hl, hb, h⟩ := h
    have f1 := AutoSeq1.idx_int
    have f2 := AutoSeq1.sub_tuple_tuple
    have f3 := AutoSeq1.sub_list_list
    have f4 := AutoSeq1.sub_tuple_list
    have f5 := AutoSeq1.sub_list_tuple
    have hz' : (items ++ items2).size ≤ sizeLine + 1 := by
      rw [Array.size_append]
      exact hs2
    wp_walk using (wpAny_updateSeq hl rfl (hz := hs1) (_hz' := hz')), AutoSeq1.wpAny_loadPart' hl, AutoSeq1.wpAny_loadPart' hb
    exact ⟨_, rfl, h⟩
def rExtT (K : PySem.W.Frag) : V → List V → Hp → VK → Prop := fun x vs H Q => ∃ l b xs zs, x = .ref l ∧ vs = [.ref b] ∧ H l = some (.lst xs) ∧ SqT K H b zs ∧ xs.length + zs.length ≤ sizeLine ∧ Q .non (upd H l (.lst (xs ++ zs)))
section
variable {X : Cx}
theorem mt_extT : MtM X "list.extend" (rExtT X.K) := by
  intro pins s σ H x vs v us Q I rx rv h
  obtain ⟨l, b, xs, zs, rfl, rfl, hH, hB, hz, q⟩ := h
  cases rx
  obtain ⟨u, rfl, ru⟩ := rv.one
  cases ru
  obtain ⟨z, its, n, r, hl, e⟩ := I.lstM hH
  obtain ⟨its2, r2, pt, hz2⟩ := I.tuple hB
  have hl2 := r2.length
  obtain ⟨o, ho, hc, n2, hd⟩ := pt
  obtain ⟨oc, od, dt, sl⟩ := o
  simp only at hc hd
  subst hc hd
  have hsz : its.toArray.size + its2.toArray.size ≤ sizeLine := by rw [List.size_toArray, List.size_toArray]; omega
  have hlong : ¬ (!its.toArray.isEmpty && Builtin.List.listTooLong (its.toArray.size + its2.toArray.size)) = true := by
    rw [notLongL hsz, Bool.and_false]
    exact Bool.false_ne_true
  refine call_meets F.slot_list_extend ⟨_, e, rfl⟩ F.entry_list_extend (F.args_list_extend_2 _ _)
    (ext_tup l its.toArray n b its2.toArray n2 od sl hlong (by rw [List.size_toArray]; omega) (by omega)) ⟨e, ho, ?_⟩
  refine ⟨.non, _, I.lset (its' := its ++ its2) hH e (by simp) (r.append r2) ?_, rfl, q⟩
  rw [List.length_append]
  omega
end
end Rb
/-! Values: none, whole numbers, words, tuples of values. -/
namespace Rb
open PySem PySem.Spec PyProof.Rows L2
mutual
def noL : PyData → Bool
  | .none => true
  | .bool _ => true
  | .int _ => true
  | .str _ => true
  | .list _ => false
  | .tuple ds => noLs ds
  | .dict _ => false
def noLs : List PyData → Bool
  | [] => true
  | d :: ds => noL d && noLs ds
end
mutual
def sz : PyData → Nat
  | .none => 1
  | .bool _ => 1
  | .int _ => 1
  | .str _ => 1
  | .list _ => 1
  | .tuple ds => szs ds + 1
  | .dict _ => 1
def szs : List PyData → Nat
  | [] => 0
  | d :: ds => sz d + szs ds
end
mutual
/-- what the program takes for a value -/
def isVal : PyData → Bool
  | .none => true
  | .bool _ => false
  | .int _ => true
  | .str _ => true
  | .list _ => false
  | .tuple ds => isVals ds
  | .dict _ => false
def isVals : List PyData → Bool
  | [] => true
  | d :: ds => isVal d && isVals ds
end
theorem noLs_app : ∀ {xs ys : List PyData}, noLs (xs ++ ys) = (noLs xs && noLs ys)
  | [], _ => by simp [noLs]
  | x :: xs, ys => by
    show (noL x && noLs (xs ++ ys)) = (noL x && noLs xs && noLs ys)
    rw [noLs_app, Bool.and_assoc]
theorem isVals_app : ∀ {xs ys : List PyData}, isVals (xs ++ ys) = (isVals xs && isVals ys)
  | [], _ => by simp [isVals]
  | x :: xs, ys => by
    show (isVal x && isVals (xs ++ ys)) = (isVal x && isVals xs && isVals ys)
    rw [isVals_app, Bool.and_assoc]
theorem szs_app : ∀ {xs ys : List PyData}, szs (xs ++ ys) = szs xs + szs ys
  | [], _ => by simp [szs]
  | x :: xs, ys => by
    show sz x + szs (xs ++ ys) = sz x + szs xs + szs ys
    rw [szs_app, Nat.add_assoc]
theorem sz_pos : ∀ d : PyData, 1 ≤ sz d
  | .none => Nat.le_refl _
  | .bool _ => Nat.le_refl _
  | .int _ => Nat.le_refl _
  | .str _ => Nat.le_refl _
  | .list _ => Nat.le_refl _
  | .tuple ds => by
    show 1 ≤ szs ds + 1
    omega
  | .dict _ => Nat.le_refl _
theorem len_szs : ∀ ds : List PyData, ds.length ≤ szs ds
  | [] => Nat.le_refl _
  | d :: ds => by
    have := sz_pos d
    have := len_szs ds
    show ds.length + 1 ≤ sz d + szs ds
    omega
/-- the tuples stay -/
def TSame (K : PySem.W.Frag) (H H' : Hp) : Prop := ∀ a xs, SqT K H a xs → SqT K H' a xs
section
variable {K : PySem.W.Frag} {H H' : Hp}
theorem TSame.refl : TSame K H H := fun _ _ h => h
theorem TSame.trans {H2 : Hp} (a : TSame K H H') (b : TSame K H' H2) : TSame K H H2 := fun _ _ h => b _ _ (a _ _ h)
theorem TSame.same (s : Same H H') : TSame K H H' := fun a xs h => by
  rcases h with (h | ⟨o, h⟩) | h
  · exact .inl (.inl (s _ _ h))
  · exact .inl (.inr ⟨o, s _ _ h⟩)
  · exact .inr h
/-- what is no tuple may be written -/
theorem TSame.upd {p : Addr} {o : HO} (h : ∀ xs, H p ≠ some (.tup xs)) (h2 : ∀ ob xs, H p ≠ some (.frz ob (.tup xs))) : TSame K H (upd H p o) := fun a xs q => by
  rcases q with (q | ⟨ob, q⟩) | q
  · refine .inl (.inl ?_)
    rw [upd_ne fun (e : a = p) => h xs (by rw [← e]; exact q)]
    exact q
  · refine .inl (.inr ⟨ob, ?_⟩)
    rw [upd_ne fun (e : a = p) => h2 ob xs (by rw [← e]; exact q)]
    exact q
  · exact .inr q
theorem TSame.lst {p : Addr} {o : HO} {xs : List V} (h : H p = some (.lst xs)) : TSame K H (L2.upd H p o) :=
  TSame.upd (fun ys e => by rw [h] at e; cases e) fun ob ys e => by rw [h] at e; cases e
mutual
theorem Dp.ts (s : TSame K H H') : ∀ (d : PyData) (v : V), noL d = true → Dp K H v d → Dp K H' v d
  | .none, _, _, h => by
    cases h
    exact .non
  | .bool b, _, _, h => by
    cases h
    exact .bl b
  | .int i, _, _, h => by
    cases h
    exact .int i
  | .str x, _, _, h => by
    cases h
    exact .str x
  | .list ds, _, n, _ => by cases n
  | .tuple ds, _, n, h => by
    cases h with
    | tup hs ha => exact .tup (s _ _ hs) (DpAll.ts s ds _ n ha)
  | .dict _, _, _, h => by cases h
theorem DpAll.ts (s : TSame K H H') : ∀ (ds : List PyData) (vs : List V), noLs ds = true → DpAll K H vs ds → DpAll K H' vs ds
  | [], _, _, h => by
    cases h
    exact .nil
  | d :: ds, _, n, h => by
    obtain ⟨n1, n2⟩ := and2 (show (noL d && noLs ds) = true from n)
    cases h with
    | cons h1 h2 => exact .cons (Dp.ts s d _ n1 h1) (DpAll.ts s ds _ n2 h2)
end
theorem DpAll.len : ∀ {vs : List V} {ds : List PyData}, DpAll K H vs ds → vs.length = ds.length
  | _, _, .nil => rfl
  | _, _, .cons _ t => congrArg (· + 1) (DpAll.len t)
theorem DpAll.app : ∀ {vs ws : List V} {ds es : List PyData}, DpAll K H vs ds → DpAll K H ws es → DpAll K H (vs ++ ws) (ds ++ es)
  | _, _, _, _, .nil, t => t
  | _, _, _, _, .cons h r, t => .cons h (DpAll.app r t)
/-- the last one apart -/
theorem DpAll.last {vs : List V} {ds : List PyData} (h : DpAll K H vs ds) (ne : vs ≠ []) : ∃ ws x es d, vs = ws ++ [x] ∧ ds = es ++ [d] ∧ DpAll K H ws es ∧ Dp K H x d := by
  induction vs generalizing ds with
  | nil => exact absurd rfl ne
  | cons v vs ih =>
    cases h with
    | @cons v vs d ds h1 h2 =>
      cases vs with
      | nil =>
        cases h2
        exact ⟨[], v, [], d, rfl, rfl, .nil, h1⟩
      | cons v2 vs2 =>
        obtain ⟨ws, x, es, d2, e1, e2, a, b⟩ := ih h2 (by intro z; cases z)
        exact ⟨v :: ws, x, d :: es, d2, by rw [e1]; rfl, by rw [e2]; rfl, .cons h1 a, b⟩
def tyOf : PyData → String
  | .none => "NoneType"
  | .bool _ => "bool"
  | .int _ => "int"
  | .str _ => "str"
  | .list _ => "list"
  | .tuple _ => "tuple"
  | .dict _ => "dict"
theorem Dp.ty {v : V} : ∀ {d : PyData}, Dp K H v d → TyB K H v (tyOf d)
  | _, .non => .non
  | _, .bl b => .bl b
  | _, .int i => .int i
  | _, .str x => .str x
  | _, .lst h _ => .lst h
  | _, .tup h _ => .tup h
theorem tyOf_known : ∀ d : PyData, tyKnown (tyOf d) = true
  | .none => (by decide : tyKnown "NoneType" = true)
  | .bool _ => (by decide : tyKnown "bool" = true)
  | .int _ => (by decide : tyKnown "int" = true)
  | .str _ => (by decide : tyKnown "str" = true)
  | .list _ => (by decide : tyKnown "list" = true)
  | .tuple _ => (by decide : tyKnown "tuple" = true)
  | .dict _ => (by decide : tyKnown "dict" = true)
end
end Rb
/-! More of the layer: joins, consts that are texts, values that tell their type. -/
namespace Rb
open PySem PySem.Spec PyProof.Rows L2
/-- a statement whose end is told by what is kept there -/
def tJoin (t : TS) : TS := fun D σ H => ∃ J : L2.St → Hp → Prop, t { D with nx := J } σ H ∧ ∀ σ' H', J σ' H' → D.nx σ' H'
theorem ps_join {X : Cx} {st : Stmt} {t : TS} (h : PS X st t) : PS X st (tJoin t) := ⟨fun pins s σ H D I hw => by
  obtain ⟨J, h1, h2⟩ := hw
  refine thn (h.run pins s σ H _ I h1) fun f s' q => ?_
  cases f with
  | next =>
    obtain ⟨σ', H', I', j⟩ := q
    exact ⟨σ', H', I', h2 _ _ j⟩
  | _ => exact q⟩
theorem str_at {K : PySem.W.Frag} {h : Heap} {mg : Str → Option Value} {x z : Str} (X : K.In h) (G : h.Ns mainGlobals mg) (c : (He.Fa.str x z).ok K = true) : ∃ u, mg x = some u ∧ RelV (.str z) u := by
  obtain ⟨t, e⟩ := He.str_ok X G c
  exact ⟨_, e, t, rfl⟩
theorem Same.seqT {K : PySem.W.Frag} {H H' : Hp} {a : Addr} {xs : List V} (e : Same H H') (h : SqT K H a xs) : SqT K H' a xs := by
  rcases h with (h | ⟨o, h⟩) | h
  · exact .inl (.inl (e _ _ h))
  · exact .inl (.inr ⟨o, e _ _ h⟩)
  · exact .inr h
/-! ### values that tell their type: flat ones and tuples -/
def El (H : Hp) : V → Prop
  | .non => True
  | .bl _ => True
  | .int _ => True
  | .str _ => True
  | .ref a => ∃ ys, H a = some (.tup ys)
  | _ => False
def tyN : V → String
  | .non => "NoneType"
  | .bl _ => "bool"
  | .int _ => "int"
  | .str _ => "str"
  | _ => "tuple"
theorem El.ty {K : PySem.W.Frag} {H : Hp} : ∀ {v : V}, El H v → TyB K H v (tyN v)
  | .non, _ => .non
  | .bl b, _ => .bl b
  | .int i, _ => .int i
  | .str x, _ => .str x
  | .ref a, h => by
    obtain ⟨ys, e⟩ := h
    exact .tup (SqT.of e)
theorem El.tx {K : PySem.W.Frag} {H : Hp} : ∀ {v : V}, El H v → TyX K H v (.type (tyN v))
  | .non, _ => .base .non
  | .bl b, _ => .base (.bl b)
  | .int i, _ => .base (.int i)
  | .str x, _ => .base (.str x)
  | .ref a, h => by
    obtain ⟨ys, e⟩ := h
    exact .base (.tup e)
theorem El.same {H H' : Hp} (s : Same H H') : ∀ {v : V}, El H v → El H' v
  | .non, _ => trivial
  | .bl _, _ => trivial
  | .int _, _ => trivial
  | .str _, _ => trivial
  | .ref a, h => by
    obtain ⟨ys, e⟩ := h
    exact ⟨ys, s _ _ e⟩
/-- a list that is written is no tuple -/
theorem El.put {H : Hp} {p : Addr} {xs : List V} {o : HO} (e : H p = some (.lst xs)) : ∀ {v : V}, El H v → El (upd H p o) v
  | .non, _ => trivial
  | .bl _, _ => trivial
  | .int _, _ => trivial
  | .str _, _ => trivial
  | .ref a, h => by
    obtain ⟨ys, k⟩ := h
    refine ⟨ys, ?_⟩
    rw [upd_ne (fun z => by subst z; rw [e] at k; cases k)]
    exact k
/-- what is new since may be written -/
theorem Same.put {H H' : Hp} {p : Addr} {o : HO} (s : Same H H') (h : H p = none) : Same H (upd H' p o) := fun b u e => by
  rw [upd_ne (ne_of_none e h)]
  exact s b u e
/-- a list or a tuple of such -/
def Sv (H : Hp) (v : V) (t : Bool) (xs : List V) : Prop := ∃ a, v = .ref a ∧ (if t then H a = some (.tup xs) else H a = some (.lst xs)) ∧ xs.length ≤ 64 ∧ ∀ x ∈ xs, El H x
theorem Sv.ty {K : PySem.W.Frag} {H : Hp} {v : V} {t : Bool} {xs : List V} (h : Sv H v t xs) : TyB K H v (if t then "tuple" else "list") := by
  obtain ⟨a, rfl, e, _⟩ := h
  cases t
  · exact .lst (SqL.of e)
  · exact .tup (SqT.of e)
theorem Sv.tx {K : PySem.W.Frag} {H : Hp} {v : V} {t : Bool} {xs : List V} (h : Sv H v t xs) : TyX K H v (.type (if t then "tuple" else "list")) := by
  obtain ⟨a, rfl, e, _⟩ := h
  cases t
  · exact .base (.lst e)
  · exact .base (.tup e)
theorem Sv.same {H H' : Hp} (s : Same H H') {v : V} {t : Bool} {xs : List V} (h : Sv H v t xs) : Sv H' v t xs := by
  obtain ⟨a, rfl, e, l, k⟩ := h
  refine ⟨a, rfl, ?_, l, fun x hx => (k x hx).same s⟩
  cases t
  · exact s _ _ e
  · exact s _ _ e
end Rb
/-! Data that stays, a list's item that is added to. -/
namespace Rb
open PySem PySem.Spec PyProof.Rows L2
/-- xs[i], the index from the left, as what is added to -/
def rGetL (K : PySem.W.Frag) : V → V → Hp → VK → Prop := fun x y H Q => ∃ p xs i v, x = .ref p ∧ y = .int i ∧ 0 ≤ i ∧ i < 2 ^ 63 ∧ SqL K H p xs ∧ xs[i.toNat]? = some v ∧ Q v H
theorem get_list {X : Cx} : PGet X (rGetL X.K) := by
  intro pins s σ H x y v u Q I rx ry h
  obtain ⟨p, xs, i, z, rfl, rfl, h0, h63, hq, he, q⟩ := h
  cases rx
  obtain ⟨t, rfl⟩ := ry
  obtain ⟨its, r, pl, hz⟩ := I.list hq
  obtain ⟨w, ew, rw'⟩ := r.get he
  exact wpAny_getItem_list pl.isList h0 h63 (by simpa using ew) ⟨z, H, I, rw', q⟩
section
variable {K : PySem.W.Frag} {H H' : Hp}
mutual
theorem Dp.same (s : Same H H') : ∀ (d : PyData) (v : V), Dp K H v d → Dp K H' v d
  | .none, _, h => by
    cases h
    exact .non
  | .bool b, _, h => by
    cases h
    exact .bl b
  | .int i, _, h => by
    cases h
    exact .int i
  | .str x, _, h => by
    cases h
    exact .str x
  | .list ds, _, h => by
    cases h with
    | lst hs ha => exact .lst (Same.seq s hs) (DpAll.same s ds _ ha)
  | .tuple ds, _, h => by
    cases h with
    | tup hs ha => exact .tup (Same.seqT s hs) (DpAll.same s ds _ ha)
  | .dict _, _, h => by cases h
theorem DpAll.same (s : Same H H') : ∀ (ds : List PyData) (vs : List V), DpAll K H vs ds → DpAll K H' vs ds
  | [], _, h => by
    cases h
    exact .nil
  | d :: ds, _, h => by
    cases h with
    | cons h1 h2 => exact .cons (Dp.same s d _ h1) (DpAll.same s ds _ h2)
end
theorem SqL.tx {a : Addr} {xs : List V} (h : SqL K H a xs) : TyX K H (.ref a) (.type "list") := by
  rcases h with (h | ⟨o, h⟩) | ⟨o, its, n, hk, hc, _⟩
  · exact .base (.lst h)
  · exact .base (.frz h)
  · exact .kList hk hc
theorem SqT.tx {a : Addr} {xs : List V} (h : SqT K H a xs) : TyX K H (.ref a) (.type "tuple") := by
  rcases h with (h | ⟨o, h⟩) | ⟨o, its, n, hk, hc, _⟩
  · exact .base (.tup h)
  · exact .fTuple h
  · exact .kTuple hk hc
theorem Dp.tx {v : V} : ∀ {d : PyData}, Dp K H v d → TyX K H v (.type (tyOf d))
  | _, .non => .base .non
  | _, .bl b => .base (.bl b)
  | _, .int i => .base (.int i)
  | _, .str x => .base (.str x)
  | _, .lst h _ => SqL.tx h
  | _, .tup h _ => SqT.tx h
theorem dp_ints : ∀ l : List Int, DpAll K H (l.map V.int) (l.map PyData.int)
  | [] => .nil
  | _ :: r => .cons (.int _) (dp_ints r)
end
theorem lay_ints : ∀ l : List Int, PyData.canLayAll0 (l.map PyData.int) = true
  | [] => rfl
  | i :: r => by
    show PyData.canLayAll0 (PyData.int i :: r.map PyData.int) = true
    simp only [PyData.canLayAll0, PyData.canLay0, lay_ints r, Bool.true_and]
theorem dep_ints : ∀ l : List Int, PyData.depthAll (l.map PyData.int) = 0
  | [] => rfl
  | i :: r => by
    show PyData.depthAll (PyData.int i :: r.map PyData.int) = 0
    simp only [PyData.depthAll, PyData.depth, dep_ints r]
    rfl
abbrev dBlk (l : List Int) : PyData := .tuple (l.map PyData.int)
theorem lay_blks : ∀ ls : List (List Int), PyData.canLayAll0 (ls.map dBlk) = true
  | [] => rfl
  | l :: r => by
    show PyData.canLayAll0 (.tuple (l.map PyData.int) :: r.map dBlk) = true
    simp only [PyData.canLayAll0, PyData.canLay0, lay_ints l, lay_blks r, Bool.true_and]
theorem dep_blks : ∀ ls : List (List Int), PyData.depthAll (ls.map dBlk) ≤ 1
  | [] => Nat.zero_le _
  | l :: r => by
    have := dep_blks r
    show PyData.depthAll (.tuple (l.map PyData.int) :: r.map dBlk) ≤ 1
    simp only [PyData.depthAll, PyData.depth, dep_ints l]
    omega
theorem shaped_blk (l : List Int) : SeqAt.shaped (dBlk l) = true := by
  simp only [SeqAt.shaped, dBlk, PyData.canLay0, lay_ints, PyData.depth, dep_ints]
  rfl
theorem shaped_tab (ls : List (List Int)) : SeqAt.shaped (.tuple (ls.map dBlk)) = true := by
  have := dep_blks ls
  simp only [SeqAt.shaped, PyData.canLay0, lay_blks, PyData.depth, Bool.true_and, decide_eq_true_eq]
  exact decide_eq_true (Nat.le_trans (Nat.succ_le_succ this) (by decide : 2 ≤ 64))
/-- a tape that is read number by number -/
structure TpS where
  l : Addr
  ns : List Int
  pos : Nat
  rest : Int
  seed : Int
def TpS.ho (s : TpS) : HO := .lst [.ref s.l, .int (s.pos : Int), .int s.rest, .int s.seed]
structure TpOk (H : Hp) (t : Addr) (s : TpS) : Prop where
  ot : H t = some s.ho
  ol : H s.l = some (.lst (s.ns.map V.int))
  ne : s.l ≠ t
  hl : s.ns.length ≤ 63
  hp : s.pos ≤ s.ns.length
  h0 : 0 ≤ s.rest
  h1 : 0 ≤ s.seed
  h2 : s.seed < 2147483647
def Tp (H : Hp) (t l : Addr) : Prop := ∃ s, s.l = l ∧ TpOk H t s
/-- all but what stands at t stays -/
def Kp (t : Addr) (H H' : Hp) : Prop := ∀ b o, H b = some o → b ≠ t → H' b = some o
theorem Kp.refl {t : Addr} {H : Hp} : Kp t H H := fun _ _ h _ => h
theorem Kp.trans {t : Addr} {H H1 H2 : Hp} (a : Kp t H H1) (b : Kp t H1 H2) : Kp t H H2 := fun c o h n => b c o (a c o h n) n
theorem Kp.of {t : Addr} {H H' : Hp} (s : Same H H') : Kp t H H' := fun b o h _ => s b o h
theorem Kp.upd {t : Addr} {H H' : Hp} {o : HO} (a : Kp t H H') : Kp t H (upd H' t o) := fun b u h n => by
  rw [upd_ne n]
  exact a b u h n
theorem Kp.new {t p : Addr} {H H' : Hp} {o : HO} (a : Kp t H H') (ht : H t ≠ none) (h : H' p = none) : Kp t H (L2.upd H' p o) := fun b u e n => by
  have q := a b u e n
  rw [upd_ne (ne_of_none q h)]
  exact q
theorem Kp.free {t p : Addr} {H H' : Hp} (a : Kp t H H') (ht : H' t ≠ none) (h : H' p = none) : H p = none := by
  cases e : H p with
  | none => rfl
  | some o =>
    by_cases c : p = t
    · subst c
      exact absurd h ht
    · rw [a p o e c] at h
      cases h
theorem TpOk.same {H H' : Hp} {t : Addr} {s : TpS} (h : TpOk H t s) (k : Same H H') : TpOk H' t s := ⟨k _ _ h.ot, k _ _ h.ol, h.ne, h.hl, h.hp, h.h0, h.h1, h.h2⟩
theorem Tp.same {H H' : Hp} {t l : Addr} (h : Tp H t l) (k : Same H H') : Tp H' t l := h.imp fun _ x => ⟨x.1, x.2.same k⟩
theorem Tp.at {H : Hp} {t l : Addr} (h : Tp H t l) : H t ≠ none := by
  obtain ⟨s, _, h⟩ := h
  rw [h.ot]
  exact fun z => nomatch z
theorem Tp.atl {H : Hp} {t l : Addr} (h : Tp H t l) : H l ≠ none := by
  obtain ⟨s, rfl, h⟩ := h
  rw [h.ol]
  exact fun z => nomatch z
theorem Tp.lst {H : Hp} {t l : Addr} (h : Tp H t l) : ∃ xs, H t = some (.lst xs) := by
  obtain ⟨s, _, h⟩ := h
  exact ⟨_, h.ot⟩
theorem Tp.nt {H : Hp} {t l p : Addr} (h : Tp H t l) (hp : H p = none) : p ≠ t := fun z => h.at (by rw [← z]; exact hp)
theorem Tp.nl {H : Hp} {t l p : Addr} (h : Tp H t l) (hp : H p = none) : p ≠ l := fun z => h.atl (by rw [← z]; exact hp)
theorem Tp.upd {H : Hp} {t l p : Addr} {o : HO} (h : Tp H t l) (n1 : p ≠ t) (n2 : p ≠ l) : Tp (upd H p o) t l := by
  obtain ⟨s, rfl, h⟩ := h
  exact ⟨s, rfl, by rw [upd_ne n1.symm]; exact h.ot, by rw [upd_ne n2.symm]; exact h.ol, h.ne, h.hl, h.hp, h.h0, h.h1, h.h2⟩
/-- what is no list stays when a list is written -/
theorem Kp.ts {K : PySem.W.Frag} {t l : Addr} {H H' : Hp} (k : Kp t H H') (h : Tp H t l) : TSame K H H' := fun a xs q => by
  obtain ⟨ys, e⟩ := h.lst
  rcases q with (q | ⟨ob, q⟩) | q
  · exact .inl (.inl (k _ _ q fun z => by subst z; rw [e] at q; cases q))
  · exact .inl (.inr ⟨ob, k _ _ q fun z => by subst z; rw [e] at q; cases q⟩)
  · exact .inr q
def spNext : Sp := fun vs H Q _ => ∃ t l m, vs = [.ref t, .int m] ∧ Tp H t l ∧ 0 < m ∧ m < 1000 ∧ ∀ r H', Kp t H H' → Tp H' t l → 0 ≤ r → r < m → Q (.int r) H'
theorem _root_.L2.Dp.ty {K : PySem.W.Frag} {H : Hp} {v : V} {d : PyData} (h : Dp K H v d) : TyB K H v (tyOf d) := Rb.Dp.ty h
theorem _root_.L2.Dp.tx {K : PySem.W.Frag} {H : Hp} {v : V} {d : PyData} (h : Dp K H v d) : TyX K H v (.type (tyOf d)) := Rb.Dp.tx h
theorem _root_.L2.Dp.same {K : PySem.W.Frag} {H H' : Hp} {v : V} {d : PyData} (h : Dp K H v d) (s : Same H H') : Dp K H' v d := Rb.Dp.same s d v h
theorem _root_.L2.DpAll.same {K : PySem.W.Frag} {H H' : Hp} {v : List V} {d : List PyData} (h : DpAll K H v d) (s : Same H H') : DpAll K H' v d := Rb.DpAll.same s d v h
theorem eqv_self {d : PyData} (h : SeqAt.shaped d = true) : PyData.eqv d d = true := SeqAt.eqv_refl d (SeqAt.canLay_of_shaped h)
end Rb
/-! `x is True`, where x may be no bool. -/
namespace Rb
open PySem PySem.Spec PyProof.Rows L2
def rIsX (neg : Bool) : V → V → Hp → VK → Prop := fun x y H Q => ∃ b : Bool, y = .bl b ∧ ((∃ a, x = .bl a ∧ Q (.bl (neg != decide (a = b))) H) ∨ ((x = .non ∨ (∃ a, x = .ref a) ∨ (∃ i, x = .int i) ∨ (∃ i, x = .str i)) ∧ Q (.bl neg) H))
theorem op_isX {X : Cx} : OpR X (compareOp .Is) (rIsX false) := by
  intro pins s σ H x y v u Q I rx ry h
  obtain ⟨b, rfl, h⟩ := h
  cases ry
  rcases h with ⟨a, rfl, q⟩ | ⟨h, q⟩
  · cases rx
    by_cases e : a = b
    · subst e
      refine wpAny_is_self rfl ⟨.bl true, H, I, rfl, by simpa using q⟩
    · exact wpAny_is_other rfl (fun z => e (Value.bool.inj z)) ⟨.bl false, H, I, rfl, by simpa [e] using q⟩
  · rcases h with rfl | ⟨a, rfl⟩ | ⟨i, rfl⟩ | ⟨i, rfl⟩
    · cases rx
      exact wpAny_is_other rfl (fun z => by cases z) ⟨.bl false, H, I, rfl, q⟩
    · cases rx
      exact wpAny_is_other rfl (fun z => by cases z) ⟨.bl false, H, I, rfl, q⟩
    · obtain ⟨t, rfl⟩ := rx
      exact wpAny_is_other rfl (fun z => by cases z) ⟨.bl false, H, I, rfl, q⟩
    · obtain ⟨t, rfl⟩ := rx
      exact wpAny_is_other rfl (fun z => by cases z) ⟨.bl false, H, I, rfl, q⟩
def isBlD (b : Bool) : PyData → Bool
  | .bool c => decide (c = b)
  | _ => false
theorem isX_data {K : PySem.W.Frag} {H : Hp} {r : V} {rd : PyData} {b : Bool} {Q : VK} (h : Dp K H r rd) (k : Q (.bl (isBlD b rd)) H) : rIsX false r (.bl b) H Q := by
  cases h with
  | non => exact ⟨b, rfl, .inr ⟨.inl rfl, k⟩⟩
  | bl a => exact ⟨b, rfl, .inl ⟨a, rfl, by simpa [isBlD] using k⟩⟩
  | int i => exact ⟨b, rfl, .inr ⟨.inr (.inr (.inl ⟨i, rfl⟩)), k⟩⟩
  | str i => exact ⟨b, rfl, .inr ⟨.inr (.inr (.inr ⟨i, rfl⟩)), k⟩⟩
  | lst _ _ => exact ⟨b, rfl, .inr ⟨.inr (.inl ⟨_, rfl⟩), k⟩⟩
  | tup _ _ => exact ⟨b, rfl, .inr ⟨.inr (.inl ⟨_, rfl⟩), k⟩⟩
end Rb
namespace Rb
open PySem PySem.Spec PyProof.Rows L2
/-- a list against an empty one: no item is looked at -/
def rEqE (K : PySem.W.Frag) : V → V → Hp → VK → Prop := fun x y H Q => ∃ a b xs, x = .ref a ∧ y = .ref b ∧ SqL K H a xs ∧ SqL K H b [] ∧ Q (.bl xs.isEmpty) H
theorem op_eqE {X : Cx} (hu : X.A.units + 64 < cLine) : OpR X (compareOp .Eq) (rEqE X.K) := by
  intro pins s σ H x y v u Q I rx ry h
  obtain ⟨a, b, xs, rfl, rfl, h1, h2, q⟩ := h
  cases rx
  cases ry
  obtain ⟨its, r, pl, hz⟩ := I.list h1
  obtain ⟨its2, r2, pl2, hz2⟩ := I.list h2
  cases r2
  cases r with
  | nil =>
    refine SeqAt.eq_listAt (e := fun _ => true) pl.isList pl2.isList rfl (by omega) (fun j h1 _ => absurd h1 (Nat.not_lt_zero _)) ⟨.bl true, H, I, rfl, q⟩
  | cons _ _ =>
    refine SeqAt.eq_list_lengthsAt pl.isList pl2.isList (by simp) (by omega) ⟨.bl false, H, I, rfl, q⟩
end Rb
/-! A method as a value, and its call by the attribute that holds it. -/
namespace Rb
open PySem PySem.Spec PyProof.Rows L2
def tBnd (g : Addr) (m : Str) (ta : TE) : TE := fun σ H Q => ta σ H fun x H1 => ∃ a C dx fs, x = .ref a ∧ H1 a = some (.ins C dx fs) ∧ fs.lookup m = none ∧ ∀ q, H1 q = none → Q (.ref q) (upd H1 q (.met g a))
def tBnd' (C g : Addr) (m : Str) (ta : TE) : TE := fun σ H Q => ta σ H fun x H1 => ∃ a dx fs, x = .ref a ∧ H1 a = some (.ins C dx fs) ∧ fs.lookup m = none ∧ ∀ q, H1 q = none → Q (.ref q) (upd H1 q (.met g a))
/-- o.m, a method, as a value -/
theorem pe_bnd {X : Cx} {C g : Addr} {m : Str} {o : Expr} {ta : TE} {pos : Pos} (c : Cls X.K C) (b : BMeth X.K C m g) (ho : PE X o ta) (hb : attributeBase o m X.env (eval o X.env) = eval o X.env := by rfl) : PE X (.Attribute o m pos) (tBnd' C g m ta) := ⟨fun pins s σ H Q I h => by
  refine attr_of hb (thn (ho.run pins s σ H _ I h) ?_)
  rintro u s1 ⟨x, H1, I1, rx, a, dx, fs, rfl, ea, l, q⟩
  cases rx
  exact getbound_ok I1 ea c b l fun q1 s2 hq1 I2 => ⟨.ref q1, _, I2, rfl, q q1 hq1⟩⟩
/-- o.f(e, ..), where the field holds a method of an object -/
def tBCall (P : Program) (w : World) (K : PySem.W.Frag) (mg : Str → Option Value) (base : Heap) (j : Nat) (m : Str) (ta : TE) (t : TA) : TE := fun σ H Q => ta σ H fun x H1 => ∃ a C dx fs q y g, ∃ (k : Nat) (sp : Sp), x = .ref a ∧ H1 a = some (.ins C dx fs) ∧ Cls K C ∧ NoAttr K C m ∧ fs.lookup m = some (.ref q) ∧
  H1 q = some (.met g y) ∧ PySem.W.fnIn K g = true ∧ FnC P w K mg base CX0 k g sp ∧ k ≤ j ∧ t σ H1 fun vs H2 => H2 q = some (.met g y) ∧ sp (.ref y :: vs) H2 Q E0
theorem pe_bcall {X : Cx} {j : Nat} {m : Str} {o e : Expr} {es : List Expr} {ta : TE} {t : TA} {apos pos : Pos} {pl : Sem Bool} (hr : Room j X.A) (ho : PE X o ta) (ha : PA X (e :: es) t)
    (h1 : starEach (e :: es) X.env = (false, eval e X.env) :: starEach es X.env := by rfl) (h2 : (backTo pos (starEach es X.env)).any (·.1) = false := by rfl)
    (h3 : eval (.Call (.Attribute o m apos) (e :: es) [] pos) X.env = (do
      let ov ← eval o X.env
      standAt apos.atName
      let (g, first) ← holding [ov] (getMethod ov m pl)
      callWith pos g first (backTo pos (starEach (e :: es) X.env)) (backToKw pos (keywordEach [] X.env))) := by rfl) :
    PE X (.Call (.Attribute o m apos) (e :: es) [] pos) (tBCall X.prog X.w X.K X.mg X.base j m ta t) := ⟨fun pins s σ H Q I h => by
  refine W.methodCall_KW (thn (ho.run pins s σ H _ I h) ?_) h3
  rintro u s1 ⟨x, H1, I1, rx, a, C, dx, fs, q, y, g, k, sp, rfl, ea, c, n, l, hq, hfn, F, hk, hh⟩
  cases rx
  refine getmeth_fld I1 ea c n l fun u' s2 I2 ru => ?_
  cases ru
  obtain ⟨fd, ps, F, b, kp⟩ := F.ex
  have FR := F.raw b .nil
  show wpAny _ _ (callWith pos (.ref q) [] (backTo pos (starEach (e :: es) X.env)) []) _ _ _
  refine W.callWith_of (P := W.MethP X.K q g (.ref y)) ?_ (W.keeps_M hfn) ?_
  · rw [h1]
    show (false || ((backTo pos (starEach es X.env)).any fun x => x.fst) || false) = false
    rw [h2]
    rfl
  rw [h1]
  refine Calls.evalArgs_plain ?_
  have hrun := ha.run pos pins s2 σ H1 _ I2 hh
  rw [h1] at hrun
  refine thn hrun ?_
  rintro us s3 ⟨vs, H3, I3, r, hq3, hsp⟩
  refine ⟨met_P I3 hq3, ?_⟩
  refine wpAny_call (W.method_call (met_P I3 hq3).left ?_)
  refine run_fnR FR (hr.mono hk) pass0 I3 (vs := V.ref y :: vs) (us := Value.ref y :: us) (Paired.cons (show L2.RelV (.ref y) (Value.ref y) from rfl) r) ?_
  show sp ((V.ref y :: vs) ++ []) H3 Q E0
  rw [List.append_nil]
  exact hsp⟩
/-- the def of a class that makes a bound method -/
def bmB (x m : Str) (K : PySem.W.Frag) : Bool :=
  He.eqO (PySem.W.specialIn K (.ref (He.ma K (He.ga K x) m)) "__get__") (some (some (.builtin "function.__get__"))) && (decide (PySem.W.takesIn K (.ref (He.ma K (He.ga K x) m)) = some false) && (!PySem.W.copiedNames.contains m && PySem.W.fnIn K (He.ma K (He.ga K x) m)))
structure Bm (K : PySem.W.Frag) (x m : Str) : Prop where
  gf : PySem.W.specialIn K (.ref (He.ma K (He.ga K x) m)) "__get__" = some (some (.builtin "function.__get__"))
  tk : PySem.W.takesIn K (.ref (He.ma K (He.ga K x) m)) = some false
  cp : PySem.W.copiedNames.contains m = false
  fi : PySem.W.fnIn K (He.ma K (He.ga K x) m) = true
theorem bm_ok {K : PySem.W.Frag} {x m : Str} (h : (Ex.fact (bmB x m)).ok K = true) : Bm K x m := by
  obtain ⟨h1, h⟩ := and2 (show bmB x m K = true from h)
  obtain ⟨h2, h⟩ := and2 h
  obtain ⟨h3, h4⟩ := and2 h
  exact ⟨He.eqO_ok h1, of_decide_eq_true h2, by simpa using h3, h4⟩
theorem Bm.b {K : PySem.W.Frag} {x m : Str} (h : Bm K x m) (hm : Meth K (He.ga K x) m (He.ma K (He.ga K x) m)) : BMeth K (He.ga K x) m (He.ma K (He.ga K x) m) := ⟨hm, h.gf, h.tk, h.cp, h.fi⟩
/-- a tuple of tuples of the module -/
def tuB (x : Str) (rows : List (List V)) (K : PySem.W.Frag) : Bool :=
  tupAt K (He.ga K x) ((List.range rows.length).map fun i => .ref (adi K (He.ga K x) i)) && (List.range rows.length).all fun i => tupAt K (adi K (He.ga K x) i) (rows.getD i [])
structure Tu (K : PySem.W.Frag) (x : Str) (rows : List (List V)) : Prop where
  top : ∀ H, SqT K H (He.ga K x) ((List.range rows.length).map fun i => .ref (adi K (He.ga K x) i))
  row : ∀ i, i < rows.length → ∀ H, SqT K H (adi K (He.ga K x) i) (rows.getD i [])
theorem tu_ok {K : PySem.W.Frag} {x : Str} {rows : List (List V)} (h : (Ex.fact (tuB x rows)).ok K = true) : Tu K x rows := by
  obtain ⟨h1, h2⟩ := and2 (show tuB x rows K = true from h)
  exact ⟨tupAt_ok h1, fun i hi => tupAt_ok (List.all_eq_true.mp h2 i (List.mem_range.mpr hi))⟩
end Rb
/-! enumerate of a tuple. -/
namespace Rb
open PySem PySem.Spec PyProof.Rows L2
theorem en_new (v : Value) (o : Obj) (HP : Heap → Prop) (B : Begins v o HP) :
    Meets (Builtin.«enumerate.__new__» { pos := [Value.type "enumerate", v] }) fun _ R s =>
      HP s.heap ∧ R (.ok (.ret (.ref (s.heap.push o).objs.size))) { s with heap := (s.heap.push o).push { cls := .type "enumerate", data := .fields #[.none, .bool false, .ref s.heap.objs.size, rawInt 0, .none, .none] } } :=
  .of_wp fun prog w A R s h => by
    obtain ⟨hp, g, d, tk, os⟩ := s
    obtain ⟨hl, h⟩ := h
    have hsub := sub_enumerate
    have hit : ∀ (A' : Around) (E' : Value → Shared → Prop) (Q' : Value → Shared → Prop), Q' (.ref hp.objs.size) { heap := hp.push o, gens := g, drawn := d, toks := tk, os := os } → wpAny (model prog w) A' (pyIter v) Q' E' { heap := hp, gens := g, drawn := d, toks := tk, os := os } := fun A' E' Q' q => B.iter prog w A' E' _ Q' hl q
    wp_walk using hit
    refine wpAny_stack_any fun st => wpAny_pure ?_
    dsimp only
    have key : ∀ (c : Prop) [Decidable c] (a b : Sem Fin) (Q' : Fin → Shared → Prop) (E' : Value → Shared → Prop) (s' : Shared), wpAny (model prog w) A.in1 a Q' E' s' → wpAny (model prog w) A.in1 b Q' E' s' → wpAny (model prog w) A.in1 (if c then a else b) Q' E' s' := fun c _ a b Q' E' s' h1 h2 => by
      by_cases hc : c
      · rw [if_pos hc]
        exact h1
      · rw [if_neg hc]
        exact h2
    refine key _ _ _ _ _ _ ?_ ?_
    · wp_walk using hit
      exact ⟨_, rfl, h⟩
    · wp_walk using hit
      exact ⟨_, rfl, h⟩
theorem call_en {prog : Program} {w : World} {A : Around} {E : Value → Shared → Prop} {s : Shared} {v : Value} {o : Obj} {HP : Heap → Prop} {Q : Value → Shared → Prop} (B : Begins v o HP) (hl : HP s.heap)
    (h : ∀ h' : Heap, IsEnum h' (s.heap.objs.size + 1) s.heap.objs.size 0 .none → h'.get? s.heap.objs.size = some o → h'.objs.size = s.heap.objs.size + 2 → (∀ (b : Addr) (o : Obj), s.heap.get? b = some o → h'.get? b = some o) →
      Q (.ref (s.heap.objs.size + 1)) { s with heap := h' }) : wpAny (model prog w) A (call (.type "enumerate") [v]) Q E s := by
  have hz := Heap.size_push s.heap o
  have g1 : ((s.heap.push o).push { cls := .type "enumerate", data := .fields #[.none, .bool false, .ref s.heap.objs.size, rawInt 0, .none, .none] }).get? (s.heap.objs.size + 1) = some { cls := .type "enumerate", data := .fields #[.none, .bool false, .ref s.heap.objs.size, rawInt 0, .none, .none] } := by
    rw [← hz]
    exact Heap.get?_push_size _ rfl
  refine callType_new F.called_enumerate (of_decide_eq_true (id (Eq.refl true))) (F.typeCall_enumerate_1 v) (F.newCall_enumerate_1 v) (fun obj => F.args_object_init_2 obj v) F.entry_enumerate_new (en_new v o HP B) ⟨hl, ?_⟩
  rw [hz]
  refine ⟨⟨_, g1, rfl⟩, h _ g1 (Heap.get?_push_of_some _ (Heap.get?_push_size s.heap B.free)) ?_ fun b o' x => Heap.get?_push_of_some _ (Heap.get?_push_of_some _ x)⟩
  rw [Heap.size_push, hz]
/-- the turns of enumerate of a tuple -/
def IteT (K : PySem.W.Frag) (a : Addr) : It :=
  ⟨fun i H => ∃ xs x, SqT K H a xs ∧ xs[i]? = some x,
    fun i H v H' => ∃ T x, v = .ref T ∧ H T = none ∧ H' = upd H T (.tup [.int (i : Int), x]) ∧ ∀ xs, SqT K H a xs → xs[i]? = some x,
    fun i H => ∃ xs, SqT K H a xs ∧ xs.length = i⟩
theorem turn_enT {P : Program} {w : World} {K : PySem.W.Frag} {elts : List Expr} {kk : Nat} {tpos : Pos} (a e it : Addr) (nai : a ≠ it) (nae : a ≠ e) :
    Turn P w K (.Tuple elts kk tpos) (IteT K a) [e, it] e fun i h => (∃ old, IsEnum h e it (i : Int) old) ∧ h.IsTupleIter it a i ∧ e ≠ it where
  mem := by simp
  obj := fun i h st c hc => by
    obtain ⟨⟨old, he⟩, ⟨o1, e1, _, d1⟩, _⟩ := st
    simp only [List.mem_cons, List.not_mem_nil, or_false] at hc
    rcases hc with rfl | rfl
    · exact ⟨_, he, fun v q => nomatch q⟩
    · exact ⟨o1, e1, fun v q => by rw [d1] at q; cases q⟩
  keep := fun i h h' st k => by
    obtain ⟨⟨old, he⟩, h1, ne⟩ := st
    exact ⟨⟨old, k e (by simp) _ he⟩, h1.at fun o q => k it (by simp) o q, ne⟩
  item := by
    intro X hP hw hK hc i pins s σ H E I hf st hg
    subst hP hw hK
    obtain ⟨⟨old, he⟩, h1, ne⟩ := st
    obtain ⟨xs, x, qx, hx⟩ := hg
    obtain ⟨its, rv, p, _⟩ := I.tuple qx
    obtain ⟨u, hu, ru⟩ := rv.get hx
    have D1 : Draws X.prog X.w X.A.in1 it [it, a] its.toArray.size (fun i v => its.toArray[i]? = some v) (fun i h => h.IsTupleIter it a i ∧ h.IsTuple a its.toArray) := Draws.tuple (A := X.A.in1) (I.ok.hd hc) it a nai its.toArray
    have l1 : i < its.toArray.size := by
      have := (List.getElem?_eq_some_iff.mp hu).1
      simpa using this
    have hel : e < s.heap.objs.size := Heap.lt_size he
    refine wpAny_pyNext_enum_itemD D1 he ⟨h1, p⟩ l1 ne (by simp [ne, nae.symm]) fun v1 h' tk w1 z' st1' hT hsz hk => ?_
    have e1 : v1 = u := by
      simp only [List.getElem?_toArray, hu] at w1
      exact (Option.some.inj w1).symm
    subst e1
    have hil : it < s.heap.objs.size := by
      obtain ⟨_, q, _⟩ := h1
      exact Heap.lt_size q
    refine ⟨_, rfl, wpAny_letOwnedTupleGo_enum z' fun h'' z'' sb => ?_⟩
    have hT2 : h''.get? s.heap.objs.size = some { cls := .type "tuple", data := .seq #[.int (i : Int) tk, v1] } := (sb.2 _ (Nat.ne_of_gt hel)).trans hT
    have new : ObjOk X.prog X.w (upd H s.heap.objs.size (.tup [.int (i : Int), x])) h'' s.heap.objs.size (.tup [.int (i : Int), x]) :=
      ⟨by show 2 ≤ sizeLine; decide, [.int (i : Int) tk, v1], .cons ⟨tk, rfl⟩ (.cons ru .nil), ⟨_, hT2, rfl, _, rfl⟩⟩
    have I1 : Inv X pins σ (upd H s.heap.objs.size (.tup [.int (i : Int), x])) { s with heap := h'', toks := tk + 1 } :=
      I.turnedNew (t' := tk + 1) (ch := [e, it]) (fun c o hb q => (sb.2 c (fun q' => hb (by simp [q']))).trans (hk c o (fun q' => hb (by simp [q'])) (fun q' => hb (by simp [q'])) q)) hf (Nat.le_refl _) new
    refine ⟨.ref s.heap.objs.size, _, I1, rfl, ⟨_, x, rfl, I.hok.fresh (Nat.le_refl _), rfl, fun l hl => by rw [I.tuple_inj hl qx]; exact hx⟩, ⟨⟨_, z''⟩, ?_, ne⟩, fun c hcm => ?_⟩
    · exact st1'.1.at fun o q => (sb.2 _ ne.symm).trans q
    · have hlt : c < s.heap.objs.size := by
        simp only [List.mem_cons, List.not_mem_nil, or_false] at hcm
        rcases hcm with rfl | rfl
        · exact hel
        · exact hil
      rw [upd_ne (Nat.ne_of_lt hlt)]
      exact (hf c hcm).1
  done := by
    intro X hP hw hK hc i pins s σ H E I hf st hg
    subst hP hw hK
    obtain ⟨⟨old, he⟩, h1, ne⟩ := st
    obtain ⟨xs, qx, g1⟩ := hg
    obtain ⟨its, rv, p, _⟩ := I.tuple qx
    have l1 := rv.length
    have D1 : Draws X.prog X.w X.A.in1 it [it, a] its.toArray.size (fun i v => its.toArray[i]? = some v) (fun i h => h.IsTupleIter it a i ∧ h.IsTuple a its.toArray) := Draws.tuple (A := X.A.in1) (I.ok.hd hc) it a nai its.toArray
    have ei : i = its.toArray.size := by
      rw [List.size_toArray]
      omega
    refine wpAny_pyNext_enum_endD D1 he (by rw [← ei]; exact ⟨h1, p⟩) fun h' hx => ⟨rfl, ?_⟩
    exact I.turnedL (t' := s.toks) (ch := [e, it]) (fun c o hb q => hx c o (fun q' => hb (by simp [q'])) q) hf
  self := fun A i s Q E st h => by
    obtain ⟨⟨old, he⟩, _⟩ := st
    exact wpAny_pyIter_enum he h
def iEnumT (K : PySem.W.Frag) (ta : TA) : TI := fun σ H R => ta σ H fun vs H1 => ∃ a xs, vs = [.ref a] ∧ SqT K H1 a xs ∧ R (IteT K a) H1
theorem pi_enumT {X : Cx} {e : Expr} {ta : TA} {p pos tpos : Pos} {elts : List Expr} {kk : Nat} (hg : Gl X "enumerate") (hm : X.mg "enumerate" = none) (ha : PA X [e] ta) (hs : starEach [e] X.env = [(false, eval e X.env)] := by rfl) :
    PI X (.Tuple elts kk tpos) (.Call (.Name "enumerate" p) [e] [] pos) (iEnumT X.K ta) := by
  refine ⟨fun pins s σ H R I h => ?_⟩
  refine Call_ (ld_blt I hg hm boot_enumerate (PyProof.Rows.callWith_type1 (thn (ha.run pos pins s σ H _ I h) fun us s1 ⟨vs, H1, I1, r1, q1⟩ => ?_) hs))
  obtain ⟨a, xs, ex, qx, q⟩ := q1
  subst ex
  cases r1 with
  | cons r rr =>
    cases rr
    cases r
    obtain ⟨its, rv, p1, _⟩ := I1.tuple qx
    have lo : a < s1.heap.objs.size := by
      obtain ⟨o1, ho1, _⟩ := id p1
      exact Heap.lt_size ho1
    refine call_en (begins_tuple a its.toArray) p1 fun h' hE g1 hsz hk => wpAny_pyIter_enum hE ?_
    have I2 : Inv X pins σ H1 { s1 with heap := h' } := I1.kept (t' := s1.toks) hk
    refine ⟨s1.heap.objs.size + 1, [s1.heap.objs.size + 1, s1.heap.objs.size], _, _, H1, rfl, I2, turn_enT a (s1.heap.objs.size + 1) s1.heap.objs.size (Nat.ne_of_lt lo) (Nat.ne_of_lt (Nat.lt_succ_of_lt lo)), ⟨⟨_, hE⟩, ⟨_, g1, rfl, rfl⟩, (Nat.ne_of_gt (Nat.lt_succ_self _))⟩, fun c hcm => ?_, q⟩
    have hle : s1.heap.objs.size ≤ c := by
      simp only [List.mem_cons, List.not_mem_nil, or_false] at hcm
      rcases hcm with rfl | rfl
      · exact Nat.le_add_right _ _
      · exact Nat.le_refl _
    exact I1.fpOk hle (I1.hok.fresh hle)
/-- a comprehension over enumerate of a tuple -/
theorem lc_enumT {K : PySem.W.Frag} {a : Addr} {xs : List V} {g : TG} {tt : TT} {te : TE} {vs : List Nat} {σ : L2.St} {H1 : Hp} {D : Addr} {Qd : Hp → Prop} (Pv : Nat → Hp → Prop) (h0 : Pv 0 (upd H1 D (.lst [])))
    (hq : ∀ i H, Pv i H → SqT K H a xs)
    (hs : ∀ i x T H, xs[i]? = some x → Pv i H → H T = none → g (.ref T) (wipe σ vs) (upd H T (.tup [.int (i : Int), x])) fun σ2 H2 => wipe σ2 vs = wipe σ vs ∧ tt σ2 H2 fun b H3 =>
      if b = true then te σ2 H3 fun y H4 => ∃ acc, H4 D = some (.lst acc) ∧ acc.length < sizeLine ∧ Pv (i + 1) (upd H4 D (.lst (acc ++ [y]))) else Pv (i + 1) H3) (hd : ∀ H, Pv xs.length H → Qd H) :
    ∃ W : Nat → Nat → Hp → Prop, (∃ m, W 0 m (upd H1 D (.lst []))) ∧ ∀ i m H, W i m H →
      ((IteT K a).stop i H ∧ Qd H) ∨ ((IteT K a).go i H ∧ ∃ Nx : Hp → Prop, (∀ H', Nx H' → ∃ m', m' < m ∧ W (i + 1) m' H') ∧ ∀ x H', (IteT K a).yld i H x H' → g x (wipe σ vs) H' fun σ2 H2 => wipe σ2 vs = wipe σ vs ∧ tt σ2 H2 fun b H3 =>
        if b = true then te σ2 H3 fun y H4 => ∃ acc, H4 D = some (.lst acc) ∧ acc.length < sizeLine ∧ Nx (upd H4 D (.lst (acc ++ [y]))) else Nx H3) := by
  refine ⟨fun i m H => m = xs.length - i ∧ i ≤ xs.length ∧ Pv i H, ⟨xs.length, by simp, Nat.zero_le _, h0⟩, ?_⟩
  rintro i m H ⟨rfl, hi, p⟩
  have qx := hq i H p
  by_cases hlt : i < xs.length
  · have hx : xs[i]? = some xs[i] := List.getElem?_eq_getElem hlt
    refine .inr ⟨⟨xs, _, qx, hx⟩, Pv (i + 1), fun H' p' => ⟨xs.length - (i + 1), by omega, rfl, hlt, p'⟩, fun x H' y => ?_⟩
    obtain ⟨T, x', rfl, hT, rfl, f1⟩ := y
    exact hs i x' T H (f1 xs qx) p hT
  · have e : i = xs.length := by omega
    exact .inl ⟨⟨xs, qx, e.symm⟩, hd H (by rw [← e]; exact p)⟩
/-- .. of a list -/
theorem lc_enumL {K : PySem.W.Frag} {a : Addr} {xs : List V} {g : TG} {tt : TT} {te : TE} {vs : List Nat} {σ : L2.St} {H1 : Hp} {D : Addr} {Qd : Hp → Prop} (Pv : Nat → Hp → Prop) (h0 : Pv 0 (upd H1 D (.lst [])))
    (hq : ∀ i H, Pv i H → SqL K H a xs)
    (hs : ∀ i x T H, xs[i]? = some x → Pv i H → H T = none → g (.ref T) (wipe σ vs) (upd H T (.tup [.int (i : Int), x])) fun σ2 H2 => wipe σ2 vs = wipe σ vs ∧ tt σ2 H2 fun b H3 =>
      if b = true then te σ2 H3 fun y H4 => ∃ acc, H4 D = some (.lst acc) ∧ acc.length < sizeLine ∧ Pv (i + 1) (upd H4 D (.lst (acc ++ [y]))) else Pv (i + 1) H3) (hd : ∀ H, Pv xs.length H → Qd H) :
    ∃ W : Nat → Nat → Hp → Prop, (∃ m, W 0 m (upd H1 D (.lst []))) ∧ ∀ i m H, W i m H →
      ((Ite K a).stop i H ∧ Qd H) ∨ ((Ite K a).go i H ∧ ∃ Nx : Hp → Prop, (∀ H', Nx H' → ∃ m', m' < m ∧ W (i + 1) m' H') ∧ ∀ x H', (Ite K a).yld i H x H' → g x (wipe σ vs) H' fun σ2 H2 => wipe σ2 vs = wipe σ vs ∧ tt σ2 H2 fun b H3 =>
        if b = true then te σ2 H3 fun y H4 => ∃ acc, H4 D = some (.lst acc) ∧ acc.length < sizeLine ∧ Nx (upd H4 D (.lst (acc ++ [y]))) else Nx H3) := by
  refine ⟨fun i m H => m = xs.length - i ∧ i ≤ xs.length ∧ Pv i H, ⟨xs.length, by simp, Nat.zero_le _, h0⟩, ?_⟩
  rintro i m H ⟨rfl, hi, p⟩
  have qx := hq i H p
  by_cases hlt : i < xs.length
  · have hx : xs[i]? = some xs[i] := List.getElem?_eq_getElem hlt
    refine .inr ⟨⟨xs, _, qx, hx⟩, Pv (i + 1), fun H' p' => ⟨xs.length - (i + 1), by omega, rfl, hlt, p'⟩, fun x H' y => ?_⟩
    obtain ⟨T, x', rfl, hT, rfl, f1⟩ := y
    exact hs i x' T H (f1 xs qx) p hT
  · have e : i = xs.length := by omega
    exact .inl ⟨⟨xs, qx, Nat.le_of_eq e.symm⟩, hd H (by rw [← e]; exact p)⟩
/-- for i, x in enumerate(a list) -/
theorem for_enumL {K : PySem.W.Frag} {a : Addr} {xs : List V} {g : TG} {tb : TS} {D : Ends} {σ : L2.St} {H : Hp} (Pv : Nat → L2.St → Hp → Prop) (h0 : Pv 0 σ H) (hq : ∀ i σ H, Pv i σ H → SqL K H a xs)
    (hs : ∀ i x T σ H, xs[i]? = some x → Pv i σ H → H T = none → g (.ref T) σ (upd H T (.tup [.int (i : Int), x])) fun σ2 H2 => tb { D with nx := Pv (i + 1), ct := Pv (i + 1), bk := D.nx } σ2 H2) (hd : ∀ σ H, Pv xs.length σ H → D.nx σ H) :
    ∃ W : Nat → Nat → L2.St → Hp → Prop, (∃ m, W 0 m σ H) ∧ ∀ i m σ H, W i m σ H → ((Ite K a).stop i H ∧ D.nx σ H) ∨ ((Ite K a).go i H ∧ ∃ N : L2.St → Hp → Prop, (∀ σ' H', N σ' H' → ∃ m', m' < m ∧ W (i + 1) m' σ' H') ∧ ∀ x H', (Ite K a).yld i H x H' → g x σ H' fun σ2 H2 => tb { D with nx := N, ct := N, bk := D.nx } σ2 H2) := by
  refine ⟨fun i m σ H => m = xs.length - i ∧ i ≤ xs.length ∧ Pv i σ H, ⟨xs.length, by simp, Nat.zero_le _, h0⟩, ?_⟩
  rintro i m σ H ⟨rfl, hi, p⟩
  have qx := hq i σ H p
  by_cases hlt : i < xs.length
  · have hx : xs[i]? = some xs[i] := List.getElem?_eq_getElem hlt
    refine .inr ⟨⟨xs, _, qx, hx⟩, Pv (i + 1), fun σ' H' p' => ⟨xs.length - (i + 1), by omega, rfl, hlt, p'⟩, fun x H' y => ?_⟩
    obtain ⟨T, x', rfl, hT, rfl, f1⟩ := y
    exact hs i x' T σ H (f1 xs qx) p hT
  · have e : i = xs.length := by omega
    exact .inl ⟨⟨xs, qx, Nat.le_of_eq e.symm⟩, hd σ H (by rw [← e]; exact p)⟩
end Rb
/-! Defs with defaults: called in full (FnC), or with the last ones left out (FnCD). -/
namespace Rb
open PySem PySem.Spec PyProof.Rows L2
section
variable {P : Program} {w : World} {K : PySem.W.Frag} {mg : Str → Option Value} {base : Heap}
theorem fncD {CX : CXT} {x qual : Str} {params : Arguments} {body : List Stmt} {scope : Scope} {dvs : List V} {kws : List (Str × V)} {f : Addr} {N ps : List Str} {k : Nat} {sp : Sp}
    (F : ∃ fd, FunD K x qual params body scope dvs kws f fd) (hd : dvs ≠ []) (S : FnScope N ps scope)
    (bd : ∀ (T : Addr) (kV doc pm : Value) (an : Option Addr) (cdv ct : Value) (us its : List Value), us.length = ps.length → its.length = dvs.length →
      ∃ k, bindArgs (PySem.W.fnOf x qual params body scope (.ref T) kV doc pm an cdv ct) ⟨us, []⟩ = seqItems? (.ref T) >>= k ∧ k (some its.toArray) = pure (ps.zip (us ++ its.drop dvs.length)))
    (len : ∀ vs H Q E, sp vs H Q E → vs.length = ps.length)
    (hb : ∀ (cdv : Value) (A : Around) (outer : List Env) (s : Shared) (H : Hp) (vs : List V) (Q : VK) (E : XK), Room k (A.deeper (envOfC qual scope s.heap.objs.size f cdv)) → sp vs H Q E →
      ∃ t, PSs (cxOf CX P w K mg base N qual scope f cdv A outer s H E) body t ∧ t { nx := fun _ H' => Q .non H', rt := Q } (start N vs) H) : FnC P w K mg base CX (k + 1) f sp := by
  obtain ⟨fd, F⟩ := F
  obtain ⟨ds, r, b⟩ := F.binds1 ps.length dvs.length hd (by omega) bd
  rw [List.drop_length] at r
  cases r
  exact ⟨fd, ps, F.ok S len hb, b, F.kp⟩
theorem fncD0 {x qual : Str} {params : Arguments} {body : List Stmt} {scope : Scope} {dvs : List V} {kws : List (Str × V)} {f : Addr} {N ps : List Str} {k : Nat} {sp : Sp}
    (F : ∃ fd, FunD K x qual params body scope dvs kws f fd) (hd : dvs ≠ []) (S : FnScope N ps scope)
    (bd : ∀ (T : Addr) (kV doc pm : Value) (an : Option Addr) (cdv ct : Value) (us its : List Value), us.length = ps.length → its.length = dvs.length →
      ∃ k, bindArgs (PySem.W.fnOf x qual params body scope (.ref T) kV doc pm an cdv ct) ⟨us, []⟩ = seqItems? (.ref T) >>= k ∧ k (some its.toArray) = pure (ps.zip (us ++ its.drop dvs.length)))
    (len : ∀ vs H Q E, sp vs H Q E → vs.length = ps.length)
    (hb : ∀ (cdv : Value) (A : Around) (outer : List Env) (s : Shared) (H : Hp) (vs : List V) (Q : VK) (E : XK), Room k (A.deeper (envOfC qual scope s.heap.objs.size f cdv)) → sp vs H Q E →
      ∃ t, PSs (cxOf CX0 P w K mg base N qual scope f cdv A outer s H E).nox body t ∧ t { nx := fun _ H' => Q .non H', rt := Q } (start N vs) H) : FnC P w K mg base CX0 (k + 1) f sp :=
  fncD F hd S bd len fun cdv A outer s H vs Q E hr h => by
    obtain ⟨t, h1, h2⟩ := hb cdv A outer s H vs Q E hr h
    exact ⟨t, h1.nox, h2⟩
/-- a def called with its last values left out -/
structure FnCD (P : Program) (w : World) (K : PySem.W.Frag) (mg : Str → Option Value) (base : Heap) (CX : CXT) (k : Nat) (f : Addr) (dvs : List V) (sp : Sp) : Prop where
  ex : ∃ (fd : FuncData) (ps : List Str) (ds : List Value), FnOk P w K mg base CX k f fd ps sp ∧ Vals dvs ds ∧ L2.Binds K fd ps ds ∧ PySem.W.keepIn K (.ref f) = true
theorem fncE {CX : CXT} {x qual : Str} {params : Arguments} {body : List Stmt} {scope : Scope} {dvs : List V} {kws : List (Str × V)} {f : Addr} {N ps : List Str} {k n : Nat} {sp : Sp}
    (F : ∃ fd, FunD K x qual params body scope dvs kws f fd) (hd : dvs ≠ []) (hn : n + dvs.length = ps.length) (S : FnScope N ps scope)
    (bd : ∀ (T : Addr) (kV doc pm : Value) (an : Option Addr) (cdv ct : Value) (us its : List Value), us.length = n → its.length = dvs.length →
      ∃ k, bindArgs (PySem.W.fnOf x qual params body scope (.ref T) kV doc pm an cdv ct) ⟨us, []⟩ = seqItems? (.ref T) >>= k ∧ k (some its.toArray) = pure (ps.zip (us ++ its.drop 0)))
    (len : ∀ vs H Q E, sp vs H Q E → vs.length = ps.length)
    (hb : ∀ (cdv : Value) (A : Around) (outer : List Env) (s : Shared) (H : Hp) (vs : List V) (Q : VK) (E : XK), Room k (A.deeper (envOfC qual scope s.heap.objs.size f cdv)) → sp vs H Q E →
      ∃ t, PSs (cxOf CX P w K mg base N qual scope f cdv A outer s H E) body t ∧ t { nx := fun _ H' => Q .non H', rt := Q } (start N vs) H) : FnCD P w K mg base CX (k + 1) f dvs sp := by
  obtain ⟨fd, F⟩ := F
  obtain ⟨ds, r, b⟩ := F.binds1 n 0 hd hn bd
  exact ⟨fd, ps, ds, F.ok S len hb, r, b, F.kp⟩
end
section
variable {X : Cx} {x : Str} {C f : Addr} {CX : CXT} {k j : Nat} {dvs : List V} {sp : Sp} {E : XK} {e : Expr} {es : List Expr} {t : TA} {p pos : Pos}
theorem pe_kD (c : FnCD X.prog X.w X.K X.mg X.base CX k f dvs sp) (hr : Room j X.A) (hk : k + 1 ≤ j) (hg : Gl X x) (hm : X.mg x = some (.ref C)) (M : Mk X.K C f) (hx : Passes CX X E) (ha : PA X (e :: es) t)
    (hdb : (x == ("__debug__" : Str)) = false := by decide) (h1 : starEach (e :: es) X.env = (false, eval e X.env) :: starEach es X.env := by rfl) (h2 : (backTo pos (starEach es X.env)).any (·.1) = false := by rfl) :
    PE X (.Call (.Name x p) (e :: es) [] pos) (tMake C sp dvs E t) := by
  obtain ⟨fd, ps, ds, F, r, b, kp⟩ := c.ex
  exact pe_make M F (hr.mono hk) hg hm b r hx ha hdb h1 h2
end
end Rb
namespace Rb
open PySem PySem.Spec PyProof.Rows L2
def top (i : Nat) : Stmt := PySem.Challenge.pw_ringbound_k18_drivers_step_by_step.main.body.getD i (.Pass ⟨0, 0, 0, 0⟩)
abbrev s_is_integer : Stmt := top 2
def d_is_integer : He.DefD := ⟨("is_integer", none), "is_integer", "is_integer", defArgs s_is_integer, defBody s_is_integer, defScope s_is_integer, [], []⟩
theorem sc_is_integer : FnScope ["value"] ["value"] (defScope s_is_integer) := ⟨rfl, rfl, rfl, by decide +kernel, rfl, by decide +kernel, by decide +kernel⟩
abbrev s_is_number : Stmt := top 3
def d_is_number : He.DefD := ⟨("is_number", none), "is_number", "is_number", defArgs s_is_number, defBody s_is_number, defScope s_is_number, [], []⟩
theorem sc_is_number : FnScope ["value", "limit"] ["value", "limit"] (defScope s_is_number) := ⟨rfl, rfl, rfl, by decide +kernel, rfl, by decide +kernel, by decide +kernel⟩
abbrev s_is_value : Stmt := top 4
def d_is_value : He.DefD := ⟨("is_value", none), "is_value", "is_value", defArgs s_is_value, defBody s_is_value, defScope s_is_value, [], []⟩
theorem sc_is_value : FnScope ["value", "left", "part"] ["value"] (defScope s_is_value) := ⟨rfl, rfl, rfl, by decide +kernel, rfl, by decide +kernel, by decide +kernel⟩
abbrev s_is_word : Stmt := top 11
def d_is_word : He.DefD := ⟨("is_word", none), "is_word", "is_word", defArgs s_is_word, defBody s_is_word, defScope s_is_word, [], []⟩
theorem sc_is_word : FnScope ["value", "frame", "right"] ["value"] (defScope s_is_word) := ⟨rfl, rfl, rfl, by decide +kernel, rfl, by decide +kernel, by decide +kernel⟩
abbrev s_Guard___init__ : Stmt := inClass (top 12) 0
def d_Guard___init__ : He.DefD := ⟨("Guard", some "__init__"), "__init__", "Guard.__init__", defArgs s_Guard___init__, defBody s_Guard___init__, defScope s_Guard___init__, [], []⟩
theorem sc_Guard___init__ : FnScope ["self"] ["self"] (defScope s_Guard___init__) := ⟨rfl, rfl, rfl, by decide +kernel, rfl, by decide +kernel, by decide +kernel⟩
abbrev s_Guard_use : Stmt := inClass (top 12) 1
def d_Guard_use : He.DefD := ⟨("Guard", some "use"), "use", "Guard.use", defArgs s_Guard_use, defBody s_Guard_use, defScope s_Guard_use, [], []⟩
theorem sc_Guard_use : FnScope ["self", "page", "right", "word", "entry", "frame", "allowed"] ["self", "page", "right", "word"] (defScope s_Guard_use) := ⟨rfl, rfl, rfl, by decide +kernel, rfl, by decide +kernel, by decide +kernel⟩
abbrev s_Guard_command : Stmt := inClass (top 12) 2
def d_Guard_command : He.DefD := ⟨("Guard", some "command"), "command", "Guard.command", defArgs s_Guard_command, defBody s_Guard_command, defScope s_Guard_command, [], []⟩
theorem sc_Guard_command : FnScope ["self", "page"] ["self", "page"] (defScope s_Guard_command) := ⟨rfl, rfl, rfl, by decide +kernel, rfl, by decide +kernel, by decide +kernel⟩
abbrev s_Guard_drop : Stmt := inClass (top 12) 3
def d_Guard_drop : He.DefD := ⟨("Guard", some "drop"), "drop", "Guard.drop", defArgs s_Guard_drop, defBody s_Guard_drop, defScope s_Guard_drop, [], []⟩
theorem sc_Guard_drop : FnScope ["self", "page", "ticket"] ["self"] (defScope s_Guard_drop) := ⟨rfl, rfl, rfl, by decide +kernel, rfl, by decide +kernel, by decide +kernel⟩
abbrev s_Guard_entries : Stmt := inClass (top 12) 4
def d_Guard_entries : He.DefD := ⟨("Guard", some "entries"), "entries", "Guard.entries", defArgs s_Guard_entries, defBody s_Guard_entries, defScope s_Guard_entries, [], []⟩
theorem sc_Guard_entries : FnScope ["self", "page"] ["self"] (defScope s_Guard_entries) := ⟨rfl, rfl, rfl, by decide +kernel, rfl, by decide +kernel, by decide +kernel⟩
abbrev s_Guard_queue : Stmt := inClass (top 12) 5
def d_Guard_queue : He.DefD := ⟨("Guard", some "queue"), "queue", "Guard.queue", defArgs s_Guard_queue, defBody s_Guard_queue, defScope s_Guard_queue, [], []⟩
theorem sc_Guard_queue : FnScope ["self"] ["self"] (defScope s_Guard_queue) := ⟨rfl, rfl, rfl, by decide +kernel, rfl, by decide +kernel, by decide +kernel⟩
abbrev s_RingError___init__ : Stmt := inClass (top 14) 0
def d_RingError___init__ : He.DefD := ⟨("RingError", some "__init__"), "__init__", "RingError.__init__", defArgs s_RingError___init__, defBody s_RingError___init__, defScope s_RingError___init__, [], []⟩
theorem sc_RingError___init__ : FnScope ["self"] ["self"] (defScope s_RingError___init__) := ⟨rfl, rfl, rfl, by decide +kernel, rfl, by decide +kernel, by decide +kernel⟩
abbrev s_NotValid___init__ : Stmt := inClass (top 15) 0
def d_NotValid___init__ : He.DefD := ⟨("NotValid", some "__init__"), "__init__", "NotValid.__init__", defArgs s_NotValid___init__, defBody s_NotValid___init__, defScope s_NotValid___init__, [], []⟩
theorem sc_NotValid___init__ : FnScope ["self"] ["self"] (defScope s_NotValid___init__) := ⟨rfl, rfl, rfl, by decide +kernel, rfl, by decide +kernel, by decide +kernel⟩
abbrev s_frame_cell : Stmt := top 21
def d_frame_cell : He.DefD := ⟨("frame_cell", none), "frame_cell", "frame_cell", defArgs s_frame_cell, defBody s_frame_cell, defScope s_frame_cell, [], []⟩
theorem sc_frame_cell : FnScope ["device", "frame", "index"] ["device", "frame", "index"] (defScope s_frame_cell) := ⟨rfl, rfl, rfl, by decide +kernel, rfl, by decide +kernel, by decide +kernel⟩
abbrev s_doorbell : Stmt := top 22
def d_doorbell : He.DefD := ⟨("doorbell", none), "doorbell", "doorbell", defArgs s_doorbell, defBody s_doorbell, defScope s_doorbell, [], []⟩
theorem sc_doorbell : FnScope ["device"] ["device"] (defScope s_doorbell) := ⟨rfl, rfl, rfl, by decide +kernel, rfl, by decide +kernel, by decide +kernel⟩
abbrev s_reset : Stmt := top 23
def d_reset : He.DefD := ⟨("reset", none), "reset", "reset", defArgs s_reset, defBody s_reset, defScope s_reset, [], []⟩
theorem sc_reset : FnScope ["device"] ["device"] (defScope s_reset) := ⟨rfl, rfl, rfl, by decide +kernel, rfl, by decide +kernel, by decide +kernel⟩
abbrev s_ready : Stmt := top 24
def d_ready : He.DefD := ⟨("ready", none), "ready", "ready", defArgs s_ready, defBody s_ready, defScope s_ready, [], []⟩
theorem sc_ready : FnScope ["device"] ["device"] (defScope s_ready) := ⟨rfl, rfl, rfl, by decide +kernel, rfl, by decide +kernel, by decide +kernel⟩
abbrev s_interrupt : Stmt := top 25
def d_interrupt : He.DefD := ⟨("interrupt", none), "interrupt", "interrupt", defArgs s_interrupt, defBody s_interrupt, defScope s_interrupt, [], []⟩
theorem sc_interrupt : FnScope ["device"] ["device"] (defScope s_interrupt) := ⟨rfl, rfl, rfl, by decide +kernel, rfl, by decide +kernel, by decide +kernel⟩
abbrev s_table_word : Stmt := top 26
def d_table_word : He.DefD := ⟨("table_word", none), "table_word", "table_word", defArgs s_table_word, defBody s_table_word, defScope s_table_word, [], []⟩
theorem sc_table_word : FnScope ["device", "page"] ["device", "page"] (defScope s_table_word) := ⟨rfl, rfl, rfl, by decide +kernel, rfl, by decide +kernel, by decide +kernel⟩
abbrev s_acknowledge : Stmt := top 27
def d_acknowledge : He.DefD := ⟨("acknowledge", none), "acknowledge", "acknowledge", defArgs s_acknowledge, defBody s_acknowledge, defScope s_acknowledge, [], []⟩
theorem sc_acknowledge : FnScope ["device"] ["device"] (defScope s_acknowledge) := ⟨rfl, rfl, rfl, by decide +kernel, rfl, by decide +kernel, by decide +kernel⟩
abbrev s_first_cells : Stmt := top 28
def d_first_cells : He.DefD := ⟨("first_cells", none), "first_cells", "first_cells", defArgs s_first_cells, defBody s_first_cells, defScope s_first_cells, [], []⟩
theorem sc_first_cells : FnScope ["cells", "device", "frame", "index", "page"] [] (defScope s_first_cells) := ⟨rfl, rfl, rfl, by decide +kernel, rfl, by decide +kernel, by decide +kernel⟩
abbrev s_is_tuple_of_values : Stmt := top 29
def d_is_tuple_of_values : He.DefD := ⟨("is_tuple_of_values", none), "is_tuple_of_values", "is_tuple_of_values", defArgs s_is_tuple_of_values, defBody s_is_tuple_of_values, defScope s_is_tuple_of_values, [], []⟩
theorem sc_is_tuple_of_values : FnScope ["part"] ["part"] (defScope s_is_tuple_of_values) := ⟨rfl, rfl, rfl, by decide +kernel, rfl, by decide +kernel, by decide +kernel⟩
abbrev s_fits : Stmt := top 30
def d_fits : He.DefD := ⟨("fits", none), "fits", "fits", defArgs s_fits, defBody s_fits, defScope s_fits, [], []⟩
theorem sc_fits : FnScope ["kind", "part"] ["kind", "part"] (defScope s_fits) := ⟨rfl, rfl, rfl, by decide +kernel, rfl, by decide +kernel, by decide +kernel⟩
abbrev s_is_actor : Stmt := top 31
def d_is_actor : He.DefD := ⟨("is_actor", none), "is_actor", "is_actor", defArgs s_is_actor, defBody s_is_actor, defScope s_is_actor, [], []⟩
theorem sc_is_actor : FnScope ["actor", "role", "device"] ["actor"] (defScope s_is_actor) := ⟨rfl, rfl, rfl, by decide +kernel, rfl, by decide +kernel, by decide +kernel⟩
abbrev s_has_form : Stmt := top 32
def d_has_form : He.DefD := ⟨("has_form", none), "has_form", "has_form", defArgs s_has_form, defBody s_has_form, defScope s_has_form, [], []⟩
theorem sc_has_form : FnScope ["role", "request", "word", "parts", "roles", "kinds", "kind", "part"] ["role", "request"] (defScope s_has_form) := ⟨rfl, rfl, rfl, by decide +kernel, rfl, by decide +kernel, by decide +kernel⟩
abbrev s_stands_in : Stmt := top 33
def d_stands_in : He.DefD := ⟨("stands_in", none), "stands_in", "stands_in", defArgs s_stands_in, defBody s_stands_in, defScope s_stands_in, [], []⟩
theorem sc_stands_in : FnScope ["cell", "first", "many"] ["cell", "first", "many"] (defScope s_stands_in) := ⟨rfl, rfl, rfl, by decide +kernel, rfl, by decide +kernel, by decide +kernel⟩
abbrev s_is_register : Stmt := top 34
def d_is_register : He.DefD := ⟨("is_register", none), "is_register", "is_register", defArgs s_is_register, defBody s_is_register, defScope s_is_register, [], []⟩
theorem sc_is_register : FnScope ["device", "cell"] ["device", "cell"] (defScope s_is_register) := ⟨rfl, rfl, rfl, by decide +kernel, rfl, by decide +kernel, by decide +kernel⟩
abbrev s_is_table_word : Stmt := top 35
def d_is_table_word : He.DefD := ⟨("is_table_word", none), "is_table_word", "is_table_word", defArgs s_is_table_word, defBody s_is_table_word, defScope s_is_table_word, [], []⟩
theorem sc_is_table_word : FnScope ["device", "cell"] ["device", "cell"] (defScope s_is_table_word) := ⟨rfl, rfl, rfl, by decide +kernel, rfl, by decide +kernel, by decide +kernel⟩
abbrev s_may_reach : Stmt := top 36
def d_may_reach : He.DefD := ⟨("may_reach", none), "may_reach", "may_reach", defArgs s_may_reach, defBody s_may_reach, defScope s_may_reach, [], []⟩
theorem sc_may_reach : FnScope ["role", "device", "cell", "is_frame_cell", "is_word_cell"] ["role", "device", "cell"] (defScope s_may_reach) := ⟨rfl, rfl, rfl, by decide +kernel, rfl, by decide +kernel, by decide +kernel⟩
abbrev s_is_allowed : Stmt := top 37
def d_is_allowed : He.DefD := ⟨("is_allowed", none), "is_allowed", "is_allowed", defArgs s_is_allowed, defBody s_is_allowed, defScope s_is_allowed, [], []⟩
theorem sc_is_allowed : FnScope ["actor", "request", "role", "device", "cell"] ["actor", "request"] (defScope s_is_allowed) := ⟨rfl, rfl, rfl, by decide +kernel, rfl, by decide +kernel, by decide +kernel⟩
abbrev s_Memory___init__ : Stmt := inClass (top 38) 0
def d_Memory___init__ : He.DefD := ⟨("Memory", some "__init__"), "__init__", "Memory.__init__", defArgs s_Memory___init__, defBody s_Memory___init__, defScope s_Memory___init__, [], []⟩
theorem sc_Memory___init__ : FnScope ["self", "device"] ["self"] (defScope s_Memory___init__) := ⟨rfl, rfl, rfl, by decide +kernel, rfl, by decide +kernel, by decide +kernel⟩
abbrev s_Memory_access : Stmt := inClass (top 38) 1
def d_Memory_access : He.DefD := ⟨("Memory", some "access"), "access", "Memory.access", defArgs s_Memory_access, defBody s_Memory_access, defScope s_Memory_access, [], []⟩
theorem sc_Memory_access : FnScope ["self", "actor", "request", "result"] ["self", "actor", "request"] (defScope s_Memory_access) := ⟨rfl, rfl, rfl, by decide +kernel, rfl, by decide +kernel, by decide +kernel⟩
abbrev s_Memory_block : Stmt := inClass (top 38) 3
def d_Memory_block : He.DefD := ⟨("Memory", some "block"), "block", "Memory.block", defArgs s_Memory_block, defBody s_Memory_block, defScope s_Memory_block, [], []⟩
theorem sc_Memory_block : FnScope ["self", "device", "block"] ["self", "device", "block"] (defScope s_Memory_block) := ⟨rfl, rfl, rfl, by decide +kernel, rfl, by decide +kernel, by decide +kernel⟩
abbrev s_Memory_journal : Stmt := inClass (top 38) 4
def d_Memory_journal : He.DefD := ⟨("Memory", some "journal"), "journal", "Memory.journal", defArgs s_Memory_journal, defBody s_Memory_journal, defScope s_Memory_journal, [], []⟩
theorem sc_Memory_journal : FnScope ["self", "device"] ["self", "device"] (defScope s_Memory_journal) := ⟨rfl, rfl, rfl, by decide +kernel, rfl, by decide +kernel, by decide +kernel⟩
abbrev s_Memory_log : Stmt := inClass (top 38) 5
def d_Memory_log : He.DefD := ⟨("Memory", some "log"), "log", "Memory.log", defArgs s_Memory_log, defBody s_Memory_log, defScope s_Memory_log, [], []⟩
theorem sc_Memory_log : FnScope ["self"] ["self"] (defScope s_Memory_log) := ⟨rfl, rfl, rfl, by decide +kernel, rfl, by decide +kernel, by decide +kernel⟩
abbrev s_Memory__result_of : Stmt := inClass (top 38) 6
def d_Memory__result_of : He.DefD := ⟨("Memory", some "_result_of"), "_result_of", "Memory._result_of", defArgs s_Memory__result_of, defBody s_Memory__result_of, defScope s_Memory__result_of, [], []⟩
theorem sc_Memory__result_of : FnScope ["self", "device", "request", "cell", "value", "page", "index", "block", "values", "generation", "sequence", "rows"] ["self", "device", "request"] (defScope s_Memory__result_of) := ⟨rfl, rfl, rfl, by decide +kernel, rfl, by decide +kernel, by decide +kernel⟩
abbrev s_Memory__dma_cell : Stmt := inClass (top 38) 7
def d_Memory__dma_cell : He.DefD := ⟨("Memory", some "_dma_cell"), "_dma_cell", "Memory._dma_cell", defArgs s_Memory__dma_cell, defBody s_Memory__dma_cell, defScope s_Memory__dma_cell, [], []⟩
theorem sc_Memory__dma_cell : FnScope ["self", "device", "page", "index", "right", "word", "frame"] ["self", "device", "page", "index", "right"] (defScope s_Memory__dma_cell) := ⟨rfl, rfl, rfl, by decide +kernel, rfl, by decide +kernel, by decide +kernel⟩
abbrev s_Memory__dma_read : Stmt := inClass (top 38) 8
def d_Memory__dma_read : He.DefD := ⟨("Memory", some "_dma_read"), "_dma_read", "Memory._dma_read", defArgs s_Memory__dma_read, defBody s_Memory__dma_read, defScope s_Memory__dma_read, [], []⟩
theorem sc_Memory__dma_read : FnScope ["self", "device", "page", "index", "cell"] ["self", "device", "page", "index"] (defScope s_Memory__dma_read) := ⟨rfl, rfl, rfl, by decide +kernel, rfl, by decide +kernel, by decide +kernel⟩
abbrev s_Memory__dma_write : Stmt := inClass (top 38) 9
def d_Memory__dma_write : He.DefD := ⟨("Memory", some "_dma_write"), "_dma_write", "Memory._dma_write", defArgs s_Memory__dma_write, defBody s_Memory__dma_write, defScope s_Memory__dma_write, [], []⟩
theorem sc_Memory__dma_write : FnScope ["self", "device", "page", "index", "value", "cell"] ["self", "device", "page", "index", "value"] (defScope s_Memory__dma_write) := ⟨rfl, rfl, rfl, by decide +kernel, rfl, by decide +kernel, by decide +kernel⟩
abbrev s_Memory__drop : Stmt := inClass (top 38) 10
def d_Memory__drop : He.DefD := ⟨("Memory", some "_drop"), "_drop", "Memory._drop", defArgs s_Memory__drop, defBody s_Memory__drop, defScope s_Memory__drop, [], []⟩
theorem sc_Memory__drop : FnScope ["self", "device", "ticket"] ["self", "device"] (defScope s_Memory__drop) := ⟨rfl, rfl, rfl, by decide +kernel, rfl, by decide +kernel, by decide +kernel⟩
abbrev s_buffer_page : Stmt := top 48
def d_buffer_page : He.DefD := ⟨("buffer_page", none), "buffer_page", "buffer_page", defArgs s_buffer_page, defBody s_buffer_page, defScope s_buffer_page, [], []⟩
theorem sc_buffer_page : FnScope ["tag"] ["tag"] (defScope s_buffer_page) := ⟨rfl, rfl, rfl, by decide +kernel, rfl, by decide +kernel, by decide +kernel⟩
abbrev s_slot_of : Stmt := top 49
def d_slot_of : He.DefD := ⟨("slot_of", none), "slot_of", "slot_of", defArgs s_slot_of, defBody s_slot_of, defScope s_slot_of, [], []⟩
theorem sc_slot_of : FnScope ["number"] ["number"] (defScope s_slot_of) := ⟨rfl, rfl, rfl, by decide +kernel, rfl, by decide +kernel, by decide +kernel⟩
abbrev s_phase_of : Stmt := top 50
def d_phase_of : He.DefD := ⟨("phase_of", none), "phase_of", "phase_of", defArgs s_phase_of, defBody s_phase_of, defScope s_phase_of, [], []⟩
theorem sc_phase_of : FnScope ["number"] ["number"] (defScope s_phase_of) := ⟨rfl, rfl, rfl, by decide +kernel, rfl, by decide +kernel, by decide +kernel⟩
abbrev s_is_tag : Stmt := top 51
def d_is_tag : He.DefD := ⟨("is_tag", none), "is_tag", "is_tag", defArgs s_is_tag, defBody s_is_tag, defScope s_is_tag, [], []⟩
theorem sc_is_tag : FnScope ["part"] ["part"] (defScope s_is_tag) := ⟨rfl, rfl, rfl, by decide +kernel, rfl, by decide +kernel, by decide +kernel⟩
abbrev s_is_order : Stmt := top 52
def d_is_order : He.DefD := ⟨("is_order", none), "is_order", "is_order", defArgs s_is_order, defBody s_is_order, defScope s_is_order, [], []⟩
theorem sc_is_order : FnScope ["tag", "kind", "block"] ["tag", "kind", "block"] (defScope s_is_order) := ⟨rfl, rfl, rfl, by decide +kernel, rfl, by decide +kernel, by decide +kernel⟩
abbrev s_is_entry_number : Stmt := top 53
def d_is_entry_number : He.DefD := ⟨("is_entry_number", none), "is_entry_number", "is_entry_number", defArgs s_is_entry_number, defBody s_is_entry_number, defScope s_is_entry_number, [], []⟩
theorem sc_is_entry_number : FnScope ["part"] ["part"] (defScope s_is_entry_number) := ⟨rfl, rfl, rfl, by decide +kernel, rfl, by decide +kernel, by decide +kernel⟩
abbrev s_descriptor : Stmt := top 55
def d_descriptor : He.DefD := ⟨("descriptor", none), "descriptor", "descriptor", defArgs s_descriptor, defBody s_descriptor, defScope s_descriptor, [], []⟩
theorem sc_descriptor : FnScope ["tag", "kind", "block", "sequence"] ["tag", "kind", "block", "sequence"] (defScope s_descriptor) := ⟨rfl, rfl, rfl, by decide +kernel, rfl, by decide +kernel, by decide +kernel⟩
abbrev s_is_completion : Stmt := top 58
def d_is_completion : He.DefD := ⟨("is_completion", none), "is_completion", "is_completion", defArgs s_is_completion, defBody s_is_completion, defScope s_is_completion, [], []⟩
theorem sc_is_completion : FnScope ["value", "tag", "word", "phase"] ["value"] (defScope s_is_completion) := ⟨rfl, rfl, rfl, by decide +kernel, rfl, by decide +kernel, by decide +kernel⟩
abbrev s_is_new_completion : Stmt := top 59
def d_is_new_completion : He.DefD := ⟨("is_new_completion", none), "is_new_completion", "is_new_completion", defArgs s_is_new_completion, defBody s_is_new_completion, defScope s_is_new_completion, [], []⟩
theorem sc_is_new_completion : FnScope ["value", "number"] ["value", "number"] (defScope s_is_new_completion) := ⟨rfl, rfl, rfl, by decide +kernel, rfl, by decide +kernel, by decide +kernel⟩
abbrev s_Device___init__ : Stmt := inClass (top 65) 0
def d_Device___init__ : He.DefD := ⟨("Device", some "__init__"), "__init__", "Device.__init__", defArgs s_Device___init__, defBody s_Device___init__, defScope s_Device___init__, [], []⟩
theorem sc_Device___init__ : FnScope ["self", "memory", "device"] ["self", "memory", "device"] (defScope s_Device___init__) := ⟨rfl, rfl, rfl, by decide +kernel, rfl, by decide +kernel, by decide +kernel⟩
abbrev s_ring_cell : Stmt := top 68
def d_ring_cell : He.DefD := ⟨("ring_cell", none), "ring_cell", "ring_cell", defArgs s_ring_cell, defBody s_ring_cell, defScope s_ring_cell, [], []⟩
theorem sc_ring_cell : FnScope ["device", "page", "number"] ["device", "page", "number"] (defScope s_ring_cell) := ⟨rfl, rfl, rfl, by decide +kernel, rfl, by decide +kernel, by decide +kernel⟩
abbrev s_lend_rings : Stmt := top 69
def d_lend_rings : He.DefD := ⟨("lend_rings", none), "lend_rings", "lend_rings", defArgs s_lend_rings, defBody s_lend_rings, defScope s_lend_rings, [], []⟩
theorem sc_lend_rings : FnScope ["device", "page", "word"] ["device"] (defScope s_lend_rings) := ⟨rfl, rfl, rfl, by decide +kernel, rfl, by decide +kernel, by decide +kernel⟩
abbrev s_fill_frame : Stmt := top 70
def d_fill_frame : He.DefD := ⟨("fill_frame", none), "fill_frame", "fill_frame", defArgs s_fill_frame, defBody s_fill_frame, defScope s_fill_frame, [], []⟩
theorem sc_fill_frame : FnScope ["device", "frame", "contents", "index", "value"] ["device", "frame", "contents"] (defScope s_fill_frame) := ⟨rfl, rfl, rfl, by decide +kernel, rfl, by decide +kernel, by decide +kernel⟩
abbrev s_hand_over : Stmt := top 72
def d_hand_over : He.DefD := ⟨("hand_over", none), "hand_over", "hand_over", defArgs s_hand_over, defBody s_hand_over, defScope s_hand_over, [], []⟩
theorem sc_hand_over : FnScope ["device", "tag", "frame", "request", "sequence", "kind", "block", "right"] ["device", "tag", "frame", "request", "sequence"] (defScope s_hand_over) := ⟨rfl, rfl, rfl, by decide +kernel, rfl, by decide +kernel, by decide +kernel⟩
abbrev s_take_back : Stmt := top 73
def d_take_back : He.DefD := ⟨("take_back", none), "take_back", "take_back", defArgs s_take_back, defBody s_take_back, defScope s_take_back, [], []⟩
theorem sc_take_back : FnScope ["device", "pages", "words", "page"] ["device", "pages"] (defScope s_take_back) := ⟨rfl, rfl, rfl, by decide +kernel, rfl, by decide +kernel, by decide +kernel⟩
abbrev s_Errand___init__ : Stmt := inClass (top 76) 0
def d_Errand___init__ : He.DefD := ⟨("Errand", some "__init__"), "__init__", "Errand.__init__", defArgs s_Errand___init__, defBody s_Errand___init__, defScope s_Errand___init__, [], []⟩
theorem sc_Errand___init__ : FnScope ["self", "request"] ["self", "request"] (defScope s_Errand___init__) := ⟨rfl, rfl, rfl, by decide +kernel, rfl, by decide +kernel, by decide +kernel⟩
abbrev s_Clients___init__ : Stmt := inClass (top 77) 0
def d_Clients___init__ : He.DefD := ⟨("Clients", some "__init__"), "__init__", "Clients.__init__", defArgs s_Clients___init__, defBody s_Clients___init__, defScope s_Clients___init__, [], []⟩
theorem sc_Clients___init__ : FnScope ["self", "requests", "request"] ["self", "requests"] (defScope s_Clients___init__) := ⟨rfl, rfl, rfl, by decide +kernel, rfl, by decide +kernel, by decide +kernel⟩
abbrev s_Clients_request_at : Stmt := inClass (top 77) 1
def d_Clients_request_at : He.DefD := ⟨("Clients", some "request_at"), "request_at", "Clients.request_at", defArgs s_Clients_request_at, defBody s_Clients_request_at, defScope s_Clients_request_at, [], []⟩
theorem sc_Clients_request_at : FnScope ["self", "index"] ["self", "index"] (defScope s_Clients_request_at) := ⟨rfl, rfl, rfl, by decide +kernel, rfl, by decide +kernel, by decide +kernel⟩
abbrev s_Clients_begin : Stmt := inClass (top 77) 2
def d_Clients_begin : He.DefD := ⟨("Clients", some "begin"), "begin", "Clients.begin", defArgs s_Clients_begin, defBody s_Clients_begin, defScope s_Clients_begin, [], []⟩
theorem sc_Clients_begin : FnScope ["self", "index", "number", "errand"] ["self", "index", "number"] (defScope s_Clients_begin) := ⟨rfl, rfl, rfl, by decide +kernel, rfl, by decide +kernel, by decide +kernel⟩
abbrev s_Clients_end_sending : Stmt := inClass (top 77) 3
def d_Clients_end_sending : He.DefD := ⟨("Clients", some "end_sending"), "end_sending", "Clients.end_sending", defArgs s_Clients_end_sending, defBody s_Clients_end_sending, defScope s_Clients_end_sending, [], []⟩
theorem sc_Clients_end_sending : FnScope ["self", "index", "sending", "errand"] ["self", "index", "sending"] (defScope s_Clients_end_sending) := ⟨rfl, rfl, rfl, by decide +kernel, rfl, by decide +kernel, by decide +kernel⟩
abbrev s_Clients_settle : Stmt := inClass (top 77) 4
def d_Clients_settle : He.DefD := ⟨("Clients", some "settle"), "settle", "Clients.settle", defArgs s_Clients_settle, defBody s_Clients_settle, defScope s_Clients_settle, [], []⟩
theorem sc_Clients_settle : FnScope ["self", "index", "answer", "number", "errand"] ["self", "index", "answer", "number"] (defScope s_Clients_settle) := ⟨rfl, rfl, rfl, by decide +kernel, rfl, by decide +kernel, by decide +kernel⟩
abbrev s_Clients_break_off : Stmt := inClass (top 77) 5
def d_Clients_break_off : He.DefD := ⟨("Clients", some "break_off"), "break_off", "Clients.break_off", defArgs s_Clients_break_off, defBody s_Clients_break_off, defScope s_Clients_break_off, [], []⟩
theorem sc_Clients_break_off : FnScope ["self", "number", "index", "errand"] ["self", "number"] (defScope s_Clients_break_off) := ⟨rfl, rfl, rfl, by decide +kernel, rfl, by decide +kernel, by decide +kernel⟩
abbrev s_Clients_is_done : Stmt := inClass (top 77) 6
def d_Clients_is_done : He.DefD := ⟨("Clients", some "is_done"), "is_done", "Clients.is_done", defArgs s_Clients_is_done, defBody s_Clients_is_done, defScope s_Clients_is_done, [], []⟩
theorem sc_Clients_is_done : FnScope ["self", "errand"] ["self"] (defScope s_Clients_is_done) := ⟨rfl, rfl, rfl, by decide +kernel, rfl, by decide +kernel, by decide +kernel⟩
abbrev s_Clients_rows : Stmt := inClass (top 77) 7
def d_Clients_rows : He.DefD := ⟨("Clients", some "rows"), "rows", "Clients.rows", defArgs s_Clients_rows, defBody s_Clients_rows, defScope s_Clients_rows, [], []⟩
theorem sc_Clients_rows : FnScope ["self", "index", "errand"] ["self"] (defScope s_Clients_rows) := ⟨rfl, rfl, rfl, by decide +kernel, rfl, by decide +kernel, by decide +kernel⟩
abbrev s_Sending___init__ : Stmt := inClass (top 89) 0
def d_Sending___init__ : He.DefD := ⟨("Sending", some "__init__"), "__init__", "Sending.__init__", defArgs s_Sending___init__, defBody s_Sending___init__, defScope s_Sending___init__, [], []⟩
theorem sc_Sending___init__ : FnScope ["self", "index", "request", "sequence", "tag", "frame"] ["self", "index", "request", "sequence", "tag", "frame"] (defScope s_Sending___init__) := ⟨rfl, rfl, rfl, by decide +kernel, rfl, by decide +kernel, by decide +kernel⟩
abbrev s_Sending_is_read : Stmt := inClass (top 89) 1
def d_Sending_is_read : He.DefD := ⟨("Sending", some "is_read"), "is_read", "Sending.is_read", defArgs s_Sending_is_read, defBody s_Sending_is_read, defScope s_Sending_is_read, [], []⟩
theorem sc_Sending_is_read : FnScope ["self"] ["self"] (defScope s_Sending_is_read) := ⟨rfl, rfl, rfl, by decide +kernel, rfl, by decide +kernel, by decide +kernel⟩
abbrev s_Driver___init__ : Stmt := inClass (top 90) 0
def d_Driver___init__ : He.DefD := ⟨("Driver", some "__init__"), "__init__", "Driver.__init__", defArgs s_Driver___init__, defBody s_Driver___init__, defScope s_Driver___init__, [.int 0], []⟩
theorem sc_Driver___init__ : FnScope ["self", "memory", "device", "requests", "without"] ["self", "memory", "device", "requests", "without"] (defScope s_Driver___init__) := ⟨rfl, rfl, rfl, by decide +kernel, rfl, by decide +kernel, by decide +kernel⟩
abbrev s_Driver_step : Stmt := inClass (top 90) 1
def d_Driver_step : He.DefD := ⟨("Driver", some "step"), "step", "Driver.step", defArgs s_Driver_step, defBody s_Driver_step, defScope s_Driver_step, [], []⟩
theorem sc_Driver_step : FnScope ["self", "result", "number"] ["self"] (defScope s_Driver_step) := ⟨rfl, rfl, rfl, by decide +kernel, rfl, by decide +kernel, by decide +kernel⟩
abbrev s_Driver_rows : Stmt := inClass (top 90) 2
def d_Driver_rows : He.DefD := ⟨("Driver", some "rows"), "rows", "Driver.rows", defArgs s_Driver_rows, defBody s_Driver_rows, defScope s_Driver_rows, [], []⟩
theorem sc_Driver_rows : FnScope ["self"] ["self"] (defScope s_Driver_rows) := ⟨rfl, rfl, rfl, by decide +kernel, rfl, by decide +kernel, by decide +kernel⟩
abbrev s_Driver_under_way : Stmt := inClass (top 90) 3
def d_Driver_under_way : He.DefD := ⟨("Driver", some "under_way"), "under_way", "Driver.under_way", defArgs s_Driver_under_way, defBody s_Driver_under_way, defScope s_Driver_under_way, [], []⟩
theorem sc_Driver_under_way : FnScope ["self", "sending"] ["self"] (defScope s_Driver_under_way) := ⟨rfl, rfl, rfl, by decide +kernel, rfl, by decide +kernel, by decide +kernel⟩
abbrev s_Driver_free_frames : Stmt := inClass (top 90) 4
def d_Driver_free_frames : He.DefD := ⟨("Driver", some "free_frames"), "free_frames", "Driver.free_frames", defArgs s_Driver_free_frames, defBody s_Driver_free_frames, defScope s_Driver_free_frames, [], []⟩
theorem sc_Driver_free_frames : FnScope ["self"] ["self"] (defScope s_Driver_free_frames) := ⟨rfl, rfl, rfl, by decide +kernel, rfl, by decide +kernel, by decide +kernel⟩
abbrev s_Driver_is_done : Stmt := inClass (top 90) 5
def d_Driver_is_done : He.DefD := ⟨("Driver", some "is_done"), "is_done", "Driver.is_done", defArgs s_Driver_is_done, defBody s_Driver_is_done, defScope s_Driver_is_done, [], []⟩
theorem sc_Driver_is_done : FnScope ["self"] ["self"] (defScope s_Driver_is_done) := ⟨rfl, rfl, rfl, by decide +kernel, rfl, by decide +kernel, by decide +kernel⟩
abbrev s_Driver__sendings : Stmt := inClass (top 90) 6
def d_Driver__sendings : He.DefD := ⟨("Driver", some "_sendings"), "_sendings", "Driver._sendings", defArgs s_Driver__sendings, defBody s_Driver__sendings, defScope s_Driver__sendings, [], []⟩
theorem sc_Driver__sendings : FnScope ["self", "tag"] ["self"] (defScope s_Driver__sendings) := ⟨rfl, rfl, rfl, by decide +kernel, rfl, by decide +kernel, by decide +kernel⟩
abbrev s_Driver__make : Stmt := inClass (top 90) 7
def d_Driver__make : He.DefD := ⟨("Driver", some "_make"), "_make", "Driver._make", defArgs s_Driver__make, defBody s_Driver__make, defScope s_Driver__make, [], []⟩
theorem sc_Driver__make : FnScope ["self", "requests", "then"] ["self", "requests", "then"] (defScope s_Driver__make) := ⟨rfl, rfl, rfl, by decide +kernel, rfl, by decide +kernel, by decide +kernel⟩
abbrev s_Driver__rest : Stmt := inClass (top 90) 8
def d_Driver__rest : He.DefD := ⟨("Driver", some "_rest"), "_rest", "Driver._rest", defArgs s_Driver__rest, defBody s_Driver__rest, defScope s_Driver__rest, [], []⟩
theorem sc_Driver__rest : FnScope ["self", "results", "number"] ["self", "results", "number"] (defScope s_Driver__rest) := ⟨rfl, rfl, rfl, by decide +kernel, rfl, by decide +kernel, by decide +kernel⟩
abbrev s_Driver__choose : Stmt := inClass (top 90) 9
def d_Driver__choose : He.DefD := ⟨("Driver", some "_choose"), "_choose", "Driver._choose", defArgs s_Driver__choose, defBody s_Driver__choose, defScope s_Driver__choose, [], []⟩
theorem sc_Driver__choose : FnScope ["self"] ["self"] (defScope s_Driver__choose) := ⟨rfl, rfl, rfl, by decide +kernel, rfl, by decide +kernel, by decide +kernel⟩
abbrev s_Driver__must_reset : Stmt := inClass (top 90) 10
def d_Driver__must_reset : He.DefD := ⟨("Driver", some "_must_reset"), "_must_reset", "Driver._must_reset", defArgs s_Driver__must_reset, defBody s_Driver__must_reset, defScope s_Driver__must_reset, [], []⟩
theorem sc_Driver__must_reset : FnScope ["self", "sending"] ["self"] (defScope s_Driver__must_reset) := ⟨rfl, rfl, rfl, by decide +kernel, rfl, by decide +kernel, by decide +kernel⟩
abbrev s_Driver__may_send : Stmt := inClass (top 90) 11
def d_Driver__may_send : He.DefD := ⟨("Driver", some "_may_send"), "_may_send", "Driver._may_send", defArgs s_Driver__may_send, defBody s_Driver__may_send, defScope s_Driver__may_send, [], []⟩
theorem sc_Driver__may_send : FnScope ["self", "request", "others", "sending", "other"] ["self"] (defScope s_Driver__may_send) := ⟨rfl, rfl, rfl, by decide +kernel, rfl, by decide +kernel, by decide +kernel⟩
abbrev s_Driver__begin_sending : Stmt := inClass (top 90) 12
def d_Driver__begin_sending : He.DefD := ⟨("Driver", some "_begin_sending"), "_begin_sending", "Driver._begin_sending", defArgs s_Driver__begin_sending, defBody s_Driver__begin_sending, defScope s_Driver__begin_sending, [], []⟩
theorem sc_Driver__begin_sending : FnScope ["self", "index", "request", "tag", "tags", "frame", "filling"] ["self"] (defScope s_Driver__begin_sending) := ⟨rfl, rfl, rfl, by decide +kernel, rfl, by decide +kernel, by decide +kernel⟩
abbrev s_Driver__first_contents : Stmt := inClass (top 90) 13
def d_Driver__first_contents : He.DefD := ⟨("Driver", some "_first_contents"), "_first_contents", "Driver._first_contents", defArgs s_Driver__first_contents, defBody s_Driver__first_contents, defScope s_Driver__first_contents, [], []⟩
theorem sc_Driver__first_contents : FnScope ["self", "request"] ["self", "request"] (defScope s_Driver__first_contents) := ⟨rfl, rfl, rfl, by decide +kernel, rfl, by decide +kernel, by decide +kernel⟩
abbrev s_Driver__end_sending : Stmt := inClass (top 90) 14
def d_Driver__end_sending : He.DefD := ⟨("Driver", some "_end_sending"), "_end_sending", "Driver._end_sending", defArgs s_Driver__end_sending, defBody s_Driver__end_sending, defScope s_Driver__end_sending, [], []⟩
theorem sc_Driver__end_sending : FnScope ["self", "results", "number", "sending", "place"] ["self", "results", "number"] (defScope s_Driver__end_sending) := ⟨rfl, rfl, rfl, by decide +kernel, rfl, by decide +kernel, by decide +kernel⟩
abbrev s_Driver__take_interrupt : Stmt := inClass (top 90) 15
def d_Driver__take_interrupt : He.DefD := ⟨("Driver", some "_take_interrupt"), "_take_interrupt", "Driver._take_interrupt", defArgs s_Driver__take_interrupt, defBody s_Driver__take_interrupt, defScope s_Driver__take_interrupt, [], []⟩
theorem sc_Driver__take_interrupt : FnScope ["self", "results", "number", "look"] ["self", "results", "number"] (defScope s_Driver__take_interrupt) := ⟨rfl, rfl, rfl, by decide +kernel, rfl, by decide +kernel, by decide +kernel⟩
abbrev s_Driver__take_completion : Stmt := inClass (top 90) 16
def d_Driver__take_completion : He.DefD := ⟨("Driver", some "_take_completion"), "_take_completion", "Driver._take_completion", defArgs s_Driver__take_completion, defBody s_Driver__take_completion, defScope s_Driver__take_completion, [], []⟩
theorem sc_Driver__take_completion : FnScope ["self", "results", "number", "found", "tag"] ["self", "results", "number"] (defScope s_Driver__take_completion) := ⟨rfl, rfl, rfl, by decide +kernel, rfl, by decide +kernel, by decide +kernel⟩
abbrev s_Driver__is_new : Stmt := inClass (top 90) 17
def d_Driver__is_new : He.DefD := ⟨("Driver", some "_is_new"), "_is_new", "Driver._is_new", defArgs s_Driver__is_new, defBody s_Driver__is_new, defScope s_Driver__is_new, [], []⟩
theorem sc_Driver__is_new : FnScope ["self", "found"] ["self", "found"] (defScope s_Driver__is_new) := ⟨rfl, rfl, rfl, by decide +kernel, rfl, by decide +kernel, by decide +kernel⟩
abbrev s_Driver__begin_finishing : Stmt := inClass (top 90) 18
def d_Driver__begin_finishing : He.DefD := ⟨("Driver", some "_begin_finishing"), "_begin_finishing", "Driver._begin_finishing", defArgs s_Driver__begin_finishing, defBody s_Driver__begin_finishing, defScope s_Driver__begin_finishing, [], []⟩
theorem sc_Driver__begin_finishing : FnScope ["self", "sending"] ["self", "sending"] (defScope s_Driver__begin_finishing) := ⟨rfl, rfl, rfl, by decide +kernel, rfl, by decide +kernel, by decide +kernel⟩
abbrev s_Driver__take_back : Stmt := inClass (top 90) 23
def d_Driver__take_back : He.DefD := ⟨("Driver", some "_take_back"), "_take_back", "Driver._take_back", defArgs s_Driver__take_back, defBody s_Driver__take_back, defScope s_Driver__take_back, [], []⟩
theorem sc_Driver__take_back : FnScope ["self", "pages", "behind"] ["self", "pages", "behind"] (defScope s_Driver__take_back) := ⟨rfl, rfl, rfl, by decide +kernel, rfl, by decide +kernel, by decide +kernel⟩
abbrev s_Driver__take_ticket : Stmt := inClass (top 90) 24
def d_Driver__take_ticket : He.DefD := ⟨("Driver", some "_take_ticket"), "_take_ticket", "Driver._take_ticket", defArgs s_Driver__take_ticket, defBody s_Driver__take_ticket, defScope s_Driver__take_ticket, [], []⟩
theorem sc_Driver__take_ticket : FnScope ["self", "results", "number"] ["self", "results", "number"] (defScope s_Driver__take_ticket) := ⟨rfl, rfl, rfl, by decide +kernel, rfl, by decide +kernel, by decide +kernel⟩
abbrev s_Driver__look_for_ticket : Stmt := inClass (top 90) 25
def d_Driver__look_for_ticket : He.DefD := ⟨("Driver", some "_look_for_ticket"), "_look_for_ticket", "Driver._look_for_ticket", defArgs s_Driver__look_for_ticket, defBody s_Driver__look_for_ticket, defScope s_Driver__look_for_ticket, [], []⟩
theorem sc_Driver__look_for_ticket : FnScope ["self"] ["self"] (defScope s_Driver__look_for_ticket) := ⟨rfl, rfl, rfl, by decide +kernel, rfl, by decide +kernel, by decide +kernel⟩
abbrev s_Driver__take_acknowledge : Stmt := inClass (top 90) 26
def d_Driver__take_acknowledge : He.DefD := ⟨("Driver", some "_take_acknowledge"), "_take_acknowledge", "Driver._take_acknowledge", defArgs s_Driver__take_acknowledge, defBody s_Driver__take_acknowledge, defScope s_Driver__take_acknowledge, [], []⟩
theorem sc_Driver__take_acknowledge : FnScope ["self", "results", "number"] ["self", "results", "number"] (defScope s_Driver__take_acknowledge) := ⟨rfl, rfl, rfl, by decide +kernel, rfl, by decide +kernel, by decide +kernel⟩
abbrev s_Driver__begin_reset : Stmt := inClass (top 90) 27
def d_Driver__begin_reset : He.DefD := ⟨("Driver", some "_begin_reset"), "_begin_reset", "Driver._begin_reset", defArgs s_Driver__begin_reset, defBody s_Driver__begin_reset, defScope s_Driver__begin_reset, [], []⟩
theorem sc_Driver__begin_reset : FnScope ["self", "buffers", "sending"] ["self"] (defScope s_Driver__begin_reset) := ⟨rfl, rfl, rfl, by decide +kernel, rfl, by decide +kernel, by decide +kernel⟩
abbrev s_Driver__ask_for_reset : Stmt := inClass (top 90) 28
def d_Driver__ask_for_reset : He.DefD := ⟨("Driver", some "_ask_for_reset"), "_ask_for_reset", "Driver._ask_for_reset", defArgs s_Driver__ask_for_reset, defBody s_Driver__ask_for_reset, defScope s_Driver__ask_for_reset, [], []⟩
theorem sc_Driver__ask_for_reset : FnScope ["self", "number", "asking"] ["self", "number"] (defScope s_Driver__ask_for_reset) := ⟨rfl, rfl, rfl, by decide +kernel, rfl, by decide +kernel, by decide +kernel⟩
abbrev s_Driver__take_ready : Stmt := inClass (top 90) 29
def d_Driver__take_ready : He.DefD := ⟨("Driver", some "_take_ready"), "_take_ready", "Driver._take_ready", defArgs s_Driver__take_ready, defBody s_Driver__take_ready, defScope s_Driver__take_ready, [], []⟩
theorem sc_Driver__take_ready : FnScope ["self", "results", "number"] ["self", "results", "number"] (defScope s_Driver__take_ready) := ⟨rfl, rfl, rfl, by decide +kernel, rfl, by decide +kernel, by decide +kernel⟩
abbrev s_Driver__break : Stmt := inClass (top 90) 30
def d_Driver__break : He.DefD := ⟨("Driver", some "_break"), "_break", "Driver._break", defArgs s_Driver__break, defBody s_Driver__break, defScope s_Driver__break, [], []⟩
theorem sc_Driver__break : FnScope ["self", "number"] ["self", "number"] (defScope s_Driver__break) := ⟨rfl, rfl, rfl, by decide +kernel, rfl, by decide +kernel, by decide +kernel⟩
abbrev s_Driver__take_journal : Stmt := inClass (top 90) 31
def d_Driver__take_journal : He.DefD := ⟨("Driver", some "_take_journal"), "_take_journal", "Driver._take_journal", defArgs s_Driver__take_journal, defBody s_Driver__take_journal, defScope s_Driver__take_journal, [], []⟩
theorem sc_Driver__take_journal : FnScope ["self", "results", "number", "journal", "again", "sending"] ["self", "results", "number"] (defScope s_Driver__take_journal) := ⟨rfl, rfl, rfl, by decide +kernel, rfl, by decide +kernel, by decide +kernel⟩
abbrev s_is_contents : Stmt := top 92
def d_is_contents : He.DefD := ⟨("is_contents", none), "is_contents", "is_contents", defArgs s_is_contents, defBody s_is_contents, defScope s_is_contents, [], []⟩
theorem sc_is_contents : FnScope ["part", "value"] ["part"] (defScope s_is_contents) := ⟨rfl, rfl, rfl, by decide +kernel, rfl, by decide +kernel, by decide +kernel⟩
abbrev s_is_request : Stmt := top 93
def d_is_request : He.DefD := ⟨("is_request", none), "is_request", "is_request", defArgs s_is_request, defBody s_is_request, defScope s_is_request, [], []⟩
theorem sc_is_request : FnScope ["value", "word", "block", "rest"] ["value"] (defScope s_is_request) := ⟨rfl, rfl, rfl, by decide +kernel, rfl, by decide +kernel, by decide +kernel⟩
abbrev s_are_requests : Stmt := top 97
def d_are_requests : He.DefD := ⟨("are_requests", none), "are_requests", "are_requests", defArgs s_are_requests, defBody s_are_requests, defScope s_are_requests, [], []⟩
theorem sc_are_requests : FnScope ["value", "part", "request"] ["value"] (defScope s_are_requests) := ⟨rfl, rfl, rfl, by decide +kernel, rfl, by decide +kernel, by decide +kernel⟩
abbrev s_names_device : Stmt := top 98
def d_names_device : He.DefD := ⟨("names_device", none), "names_device", "names_device", defArgs s_names_device, defBody s_names_device, defScope s_names_device, [], []⟩
theorem sc_names_device : FnScope ["act"] ["act"] (defScope s_names_device) := ⟨rfl, rfl, rfl, by decide +kernel, rfl, by decide +kernel, by decide +kernel⟩
abbrev s_World___init__ : Stmt := inClass (top 100) 0
def d_World___init__ : He.DefD := ⟨("World", some "__init__"), "__init__", "World.__init__", defArgs s_World___init__, defBody s_World___init__, defScope s_World___init__, [.int 0], []⟩
theorem sc_World___init__ : FnScope ["self", "requests", "without", "d"] ["self", "requests", "without"] (defScope s_World___init__) := ⟨rfl, rfl, rfl, by decide +kernel, rfl, by decide +kernel, by decide +kernel⟩
abbrev s_World_play : Stmt := inClass (top 100) 1
def d_World_play : He.DefD := ⟨("World", some "play"), "play", "World.play", defArgs s_World_play, defBody s_World_play, defScope s_World_play, [], []⟩
theorem sc_World_play : FnScope ["self", "acts", "act"] ["self", "acts"] (defScope s_World_play) := ⟨rfl, rfl, rfl, by decide +kernel, rfl, by decide +kernel, by decide +kernel⟩
abbrev s_World__play_act : Stmt := inClass (top 100) 5
def d_World__play_act : He.DefD := ⟨("World", some "_play_act"), "_play_act", "World._play_act", defArgs s_World__play_act, defBody s_World__play_act, defScope s_World__play_act, [], []⟩
theorem sc_World__play_act : FnScope ["self", "act", "d", "choice", "request"] ["self", "act"] (defScope s_World__play_act) := ⟨rfl, rfl, rfl, by decide +kernel, rfl, by decide +kernel, by decide +kernel⟩
abbrev s_World__play_device : Stmt := inClass (top 100) 6
def d_World__play_device : He.DefD := ⟨("World", some "_play_device"), "_play_device", "World._play_device", defArgs s_World__play_device, defBody s_World__play_device, defScope s_World__play_device, [], []⟩
theorem sc_World__play_device : FnScope ["self", "d", "choice"] ["self", "d", "choice"] (defScope s_World__play_device) := ⟨rfl, rfl, rfl, by decide +kernel, rfl, by decide +kernel, by decide +kernel⟩
abbrev s_World__play_guard : Stmt := inClass (top 100) 7
def d_World__play_guard : He.DefD := ⟨("World", some "_play_guard"), "_play_guard", "World._play_guard", defArgs s_World__play_guard, defBody s_World__play_guard, defScope s_World__play_guard, [], []⟩
theorem sc_World__play_guard : FnScope ["self", "d"] ["self", "d"] (defScope s_World__play_guard) := ⟨rfl, rfl, rfl, by decide +kernel, rfl, by decide +kernel, by decide +kernel⟩
abbrev s_World__play_lie : Stmt := inClass (top 100) 8
def d_World__play_lie : He.DefD := ⟨("World", some "_play_lie"), "_play_lie", "World._play_lie", defArgs s_World__play_lie, defBody s_World__play_lie, defScope s_World__play_lie, [], []⟩
theorem sc_World__play_lie : FnScope ["self", "d", "request"] ["self", "d", "request"] (defScope s_World__play_lie) := ⟨rfl, rfl, rfl, by decide +kernel, rfl, by decide +kernel, by decide +kernel⟩
abbrev s__law_next : Stmt := top 102
def d__law_next : He.DefD := ⟨("_law_next", none), "_law_next", "_law_next", defArgs s__law_next, defBody s__law_next, defScope s__law_next, [], []⟩
theorem sc__law_next : FnScope ["tape", "many", "rest", "cell"] ["tape", "many"] (defScope s__law_next) := ⟨rfl, rfl, rfl, by decide +kernel, rfl, by decide +kernel, by decide +kernel⟩
abbrev s__law_requests : Stmt := top 103
def d__law_requests : He.DefD := ⟨("_law_requests", none), "_law_requests", "_law_requests", defArgs s__law_requests, defBody s__law_requests, defScope s__law_requests, [], []⟩
theorem sc__law_requests : FnScope ["tape", "many", "requests", "wide", "turn", "block", "k"] ["tape", "many"] (defScope s__law_requests) := ⟨rfl, rfl, rfl, by decide +kernel, rfl, by decide +kernel, by decide +kernel⟩
abbrev s__law_sending : Stmt := top 104
def d__law_sending : He.DefD := ⟨("_law_sending", none), "_law_sending", "_law_sending", defArgs s__law_sending, defBody s__law_sending, defScope s__law_sending, [], []⟩
theorem sc__law_sending : FnScope ["tag", "request", "rows", "right", "index", "value"] ["tag", "request"] (defScope s__law_sending) := ⟨rfl, rfl, rfl, by decide +kernel, rfl, by decide +kernel, by decide +kernel⟩
abbrev s__law_sent : Stmt := top 105
def d__law_sent : He.DefD := ⟨("_law_sent", none), "_law_sent", "_law_sent", defArgs s__law_sent, defBody s__law_sent, defScope s__law_sent, [], []⟩
theorem sc__law_sent : FnScope ["requests", "blocks", "k"] ["requests"] (defScope s__law_sent) := ⟨rfl, rfl, rfl, by decide +kernel, rfl, by decide +kernel, by decide +kernel⟩
abbrev s__law_due : Stmt := top 106
def d__law_due : He.DefD := ⟨("_law_due", none), "_law_due", "_law_due", defArgs s__law_due, defBody s__law_due, defScope s__law_due, [], []⟩
theorem sc__law_due : FnScope ["requests", "rows", "many", "tag", "polls", "pages", "page"] ["requests"] (defScope s__law_due) := ⟨rfl, rfl, rfl, by decide +kernel, rfl, by decide +kernel, by decide +kernel⟩
abbrev s_law : Stmt := top 107
def d_law : He.DefD := ⟨("law", none), "law", "law", defArgs s_law, defBody s_law, defScope s_law, [], []⟩
theorem sc_law : FnScope ["script", "tape", "requests", "world", "due", "many", "late", "place", "tries", "state", "turn", "before", "made", "number", "actor", "request", "result", "sent", "frames", "rows", "row", "tag"] ["script"] (defScope s_law) := ⟨rfl, rfl, rfl, by decide +kernel, rfl, by decide +kernel, by decide +kernel⟩
structure Top (K : PySem.W.Frag) (mg : Str → Option Value) : Prop where
  b_type : mg "type" = none
  b_int : mg "int" = none
  g_is_integer : mg "is_integer" = some (.ref (He.ga K "is_integer"))
  b_tuple : mg "tuple" = none
  b_str : mg "str" = none
  b_len : mg "len" = none
  g_is_number : mg "is_number" = some (.ref (He.ga K "is_number"))
  c_FRAMES : ∃ u, mg "FRAMES" = some u ∧ RelV (.int 6) u
  c_RIGHTS : ∃ u, mg "RIGHTS" = some u ∧ RelV (.ref (He.ga K "RIGHTS")) u
  b_sorted : mg "sorted" = none
  b_list : mg "list" = none
  b_ValueError : mg "ValueError" = none
  vei : PySem.W.findCls K (.type "ValueError") (.type "type") "__init__" = some (.val (.builtin "ValueError.__init__"))
  cf_RingError___init__ : ClsFn K (He.ga K "RingError") (.type "type") "__init__" (He.ma K (He.ga K "RingError") "__init__")
  g_RingError : mg "RingError" = some (.ref (He.ga K "RingError"))
  c_CELLS : ∃ u, mg "CELLS" = some u ∧ RelV (.int 4) u
  g_frame_cell : mg "frame_cell" = some (.ref (He.ga K "frame_cell"))
  c_DEVICES : ∃ u, mg "DEVICES" = some u ∧ RelV (.int 2) u
  c_REGISTERS : ∃ u, mg "REGISTERS" = some u ∧ RelV (.int 4) u
  g_doorbell : mg "doorbell" = some (.ref (He.ga K "doorbell"))
  c_PAGES : ∃ u, mg "PAGES" = some u ∧ RelV (.int 6) u
  g_table_word : mg "table_word" = some (.ref (He.ga K "table_word"))
  g_acknowledge : mg "acknowledge" = some (.ref (He.ga K "acknowledge"))
  b_range : mg "range" = none
  c_RING_FRAMES : ∃ u, mg "RING_FRAMES" = some u ∧ RelV (.int 2) u
  g_is_value : mg "is_value" = some (.ref (He.ga K "is_value"))
  c_BLOCKS : ∃ u, mg "BLOCKS" = some u ∧ RelV (.int 8) u
  g_is_tuple_of_values : mg "is_tuple_of_values" = some (.ref (He.ga K "is_tuple_of_values"))
  c_FORMS : ∃ u, mg "FORMS" = some u ∧ RelV (.ref (He.ga K "FORMS")) u
  b_all : mg "all" = none
  b_zip : mg "zip" = none
  g_fits : mg "fits" = some (.ref (He.ga K "fits"))
  g_stands_in : mg "stands_in" = some (.ref (He.ga K "stands_in"))
  g_is_register : mg "is_register" = some (.ref (He.ga K "is_register"))
  g_is_table_word : mg "is_table_word" = some (.ref (He.ga K "is_table_word"))
  g_is_actor : mg "is_actor" = some (.ref (He.ga K "is_actor"))
  g_has_form : mg "has_form" = some (.ref (He.ga K "has_form"))
  g_may_reach : mg "may_reach" = some (.ref (He.ga K "may_reach"))
  g_is_word : mg "is_word" = some (.ref (He.ga K "is_word"))
  g_Guard : mg "Guard" = some (.ref (He.ga K "Guard"))
  mk_Guard : Mk K (He.ga K "Guard") (He.ma K (He.ga K "Guard") "__init__")
  g_first_cells : mg "first_cells" = some (.ref (He.ga K "first_cells"))
  g_is_allowed : mg "is_allowed" = some (.ref (He.ga K "is_allowed"))
  ex_NotValid : OexC K (He.ga K "NotValid")
  ini_NotValid : PySem.W.findIn K (.ref (He.ga K "NotValid")) "__init__" = some (some (.ref (He.ma K (He.ga K "NotValid") "__init__")))
  ity_NotValid : PySem.W.typeIn K (.ref (He.ma K (He.ga K "NotValid") "__init__")) = some (.type "function")
  g_NotValid : mg "NotValid" = some (.ref (He.ga K "NotValid"))
  cl_Memory : Cls K (He.ga K "Memory")
  me_Memory__result_of : Meth K (He.ga K "Memory") "_result_of" (He.ma K (He.ga K "Memory") "_result_of")
  me_Memory__dma_read : Meth K (He.ga K "Memory") "_dma_read" (He.ma K (He.ga K "Memory") "_dma_read")
  me_Memory__dma_write : Meth K (He.ga K "Memory") "_dma_write" (He.ma K (He.ga K "Memory") "_dma_write")
  cl_Guard : Cls K (He.ga K "Guard")
  me_Guard_command : Meth K (He.ga K "Guard") "command" (He.ma K (He.ga K "Guard") "command")
  me_Memory__drop : Meth K (He.ga K "Memory") "_drop" (He.ma K (He.ga K "Memory") "_drop")
  me_Guard_use : Meth K (He.ga K "Guard") "use" (He.ma K (He.ga K "Guard") "use")
  me_Memory__dma_cell : Meth K (He.ga K "Memory") "_dma_cell" (He.ma K (He.ga K "Memory") "_dma_cell")
  me_Guard_drop : Meth K (He.ga K "Guard") "drop" (He.ma K (He.ga K "Guard") "drop")
  c_FIRST_BUFFER : ∃ u, mg "FIRST_BUFFER" = some u ∧ RelV (.int 2) u
  c_SLOTS : ∃ u, mg "SLOTS" = some u ∧ RelV (.int 4) u
  c_TAGS : ∃ u, mg "TAGS" = some u ∧ RelV (.int 4) u
  g_is_tag : mg "is_tag" = some (.ref (He.ga K "is_tag"))
  c_KINDS : ∃ u, mg "KINDS" = some u ∧ RelV (.ref (He.ga K "KINDS")) u
  g_is_order : mg "is_order" = some (.ref (He.ga K "is_order"))
  g_is_entry_number : mg "is_entry_number" = some (.ref (He.ga K "is_entry_number"))
  g_phase_of : mg "phase_of" = some (.ref (He.ga K "phase_of"))
  c_DONE : ∃ u, mg "DONE" = some u ∧ RelV (.str "done") u
  c_PHASES : ∃ u, mg "PHASES" = some u ∧ RelV (.int 2) u
  g_is_completion : mg "is_completion" = some (.ref (He.ga K "is_completion"))
  g_slot_of : mg "slot_of" = some (.ref (He.ga K "slot_of"))
  b_enumerate : mg "enumerate" = none
  c_RING_WORDS : ∃ u, mg "RING_WORDS" = some u ∧ RelV (.ref (He.ga K "RING_WORDS")) u
  g_buffer_page : mg "buffer_page" = some (.ref (He.ga K "buffer_page"))
  g_ring_cell : mg "ring_cell" = some (.ref (He.ga K "ring_cell"))
  c_SUBMISSIONS : ∃ u, mg "SUBMISSIONS" = some u ∧ RelV (.int 0) u
  g_descriptor : mg "descriptor" = some (.ref (He.ga K "descriptor"))
  g_Errand : mg "Errand" = some (.ref (He.ga K "Errand"))
  mk_Errand : Mk K (He.ga K "Errand") (He.ma K (He.ga K "Errand") "__init__")
  cl_Clients : Cls K (He.ga K "Clients")
  me_Clients_settle : Meth K (He.ga K "Clients") "settle" (He.ma K (He.ga K "Clients") "settle")
  g_Clients : mg "Clients" = some (.ref (He.ga K "Clients"))
  mk_Clients : Mk K (He.ga K "Clients") (He.ma K (He.ga K "Clients") "__init__")
  c_POOL : ∃ u, mg "POOL" = some u ∧ RelV (.ref (He.ga K "POOL")) u
  cl_Driver : Cls K (He.ga K "Driver")
  me_Driver__make : Meth K (He.ga K "Driver") "_make" (He.ma K (He.ga K "Driver") "_make")
  g_lend_rings : mg "lend_rings" = some (.ref (He.ga K "lend_rings"))
  bm_Driver__rest : Bm K "Driver" "_rest"
  me_Driver__rest : Meth K (He.ga K "Driver") "_rest" (He.ma K (He.ga K "Driver") "_rest")
  me_Driver__choose : Meth K (He.ga K "Driver") "_choose" (He.ma K (He.ga K "Driver") "_choose")
  me_Memory_access : Meth K (He.ga K "Memory") "access" (He.ma K (He.ga K "Memory") "access")
  me_Clients_rows : Meth K (He.ga K "Clients") "rows" (He.ma K (He.ga K "Clients") "rows")
  me_Driver__sendings : Meth K (He.ga K "Driver") "_sendings" (He.ma K (He.ga K "Driver") "_sendings")
  me_Clients_is_done : Meth K (He.ga K "Clients") "is_done" (He.ma K (He.ga K "Clients") "is_done")
  me_Driver__must_reset : Meth K (He.ga K "Driver") "_must_reset" (He.ma K (He.ga K "Driver") "_must_reset")
  me_Driver__begin_reset : Meth K (He.ga K "Driver") "_begin_reset" (He.ma K (He.ga K "Driver") "_begin_reset")
  me_Driver__may_send : Meth K (He.ga K "Driver") "_may_send" (He.ma K (He.ga K "Driver") "_may_send")
  me_Driver__begin_sending : Meth K (He.ga K "Driver") "_begin_sending" (He.ma K (He.ga K "Driver") "_begin_sending")
  g_interrupt : mg "interrupt" = some (.ref (He.ga K "interrupt"))
  bm_Driver__take_interrupt : Bm K "Driver" "_take_interrupt"
  me_Driver__take_interrupt : Meth K (He.ga K "Driver") "_take_interrupt" (He.ma K (He.ga K "Driver") "_take_interrupt")
  b_any : mg "any" = none
  c_MOST_ACCESSES : ∃ u, mg "MOST_ACCESSES" = some u ∧ RelV (.int 200) u
  c_MOST_UNDER_WAY : ∃ u, mg "MOST_UNDER_WAY" = some u ∧ RelV (.int 3) u
  me_Clients_request_at : Meth K (He.ga K "Clients") "request_at" (He.ma K (He.ga K "Clients") "request_at")
  cl_Sending : Cls K (He.ga K "Sending")
  me_Sending_is_read : Meth K (He.ga K "Sending") "is_read" (He.ma K (He.ga K "Sending") "is_read")
  g_Sending : mg "Sending" = some (.ref (He.ga K "Sending"))
  mk_Sending : Mk K (He.ga K "Sending") (He.ma K (He.ga K "Sending") "__init__")
  me_Clients_begin : Meth K (He.ga K "Clients") "begin" (He.ma K (He.ga K "Clients") "begin")
  g_fill_frame : mg "fill_frame" = some (.ref (He.ga K "fill_frame"))
  me_Driver__first_contents : Meth K (He.ga K "Driver") "_first_contents" (He.ma K (He.ga K "Driver") "_first_contents")
  g_hand_over : mg "hand_over" = some (.ref (He.ga K "hand_over"))
  bm_Driver__end_sending : Bm K "Driver" "_end_sending"
  me_Driver__end_sending : Meth K (He.ga K "Driver") "_end_sending" (He.ma K (He.ga K "Driver") "_end_sending")
  c_ZEROS : ∃ u, mg "ZEROS" = some u ∧ RelV (.int 2) u
  me_Clients_end_sending : Meth K (He.ga K "Clients") "end_sending" (He.ma K (He.ga K "Clients") "end_sending")
  c_COMPLETIONS : ∃ u, mg "COMPLETIONS" = some u ∧ RelV (.int 1) u
  bm_Driver__take_completion : Bm K "Driver" "_take_completion"
  me_Driver__take_completion : Meth K (He.ga K "Driver") "_take_completion" (He.ma K (He.ga K "Driver") "_take_completion")
  c_MOST_PATIENCE : ∃ u, mg "MOST_PATIENCE" = some u ∧ RelV (.int 4) u
  me_Driver__is_new : Meth K (He.ga K "Driver") "_is_new" (He.ma K (He.ga K "Driver") "_is_new")
  me_Driver__begin_finishing : Meth K (He.ga K "Driver") "_begin_finishing" (He.ma K (He.ga K "Driver") "_begin_finishing")
  c_PHASE : ∃ u, mg "PHASE" = some u ∧ RelV (.int 3) u
  g_is_new_completion : mg "is_new_completion" = some (.ref (He.ga K "is_new_completion"))
  g_take_back : mg "take_back" = some (.ref (He.ga K "take_back"))
  bm_Driver__take_ticket : Bm K "Driver" "_take_ticket"
  me_Driver__take_ticket : Meth K (He.ga K "Driver") "_take_ticket" (He.ma K (He.ga K "Driver") "_take_ticket")
  c_WAITING : ∃ u, mg "WAITING" = some u ∧ RelV (.int 1) u
  me_Driver__look_for_ticket : Meth K (He.ga K "Driver") "_look_for_ticket" (He.ma K (He.ga K "Driver") "_look_for_ticket")
  bm_Driver__take_acknowledge : Bm K "Driver" "_take_acknowledge"
  me_Driver__take_acknowledge : Meth K (He.ga K "Driver") "_take_acknowledge" (He.ma K (He.ga K "Driver") "_take_acknowledge")
  me_Driver__take_back : Meth K (He.ga K "Driver") "_take_back" (He.ma K (He.ga K "Driver") "_take_back")
  bm_Driver__ask_for_reset : Bm K "Driver" "_ask_for_reset"
  me_Driver__ask_for_reset : Meth K (He.ga K "Driver") "_ask_for_reset" (He.ma K (He.ga K "Driver") "_ask_for_reset")
  g_reset : mg "reset" = some (.ref (He.ga K "reset"))
  g_ready : mg "ready" = some (.ref (He.ga K "ready"))
  bm_Driver__take_ready : Bm K "Driver" "_take_ready"
  me_Driver__take_ready : Meth K (He.ga K "Driver") "_take_ready" (He.ma K (He.ga K "Driver") "_take_ready")
  bm_Driver__take_journal : Bm K "Driver" "_take_journal"
  me_Driver__take_journal : Meth K (He.ga K "Driver") "_take_journal" (He.ma K (He.ga K "Driver") "_take_journal")
  c_MOST_READINGS : ∃ u, mg "MOST_READINGS" = some u ∧ RelV (.int 100) u
  me_Driver__break : Meth K (He.ga K "Driver") "_break" (He.ma K (He.ga K "Driver") "_break")
  me_Clients_break_off : Meth K (He.ga K "Clients") "break_off" (He.ma K (He.ga K "Clients") "break_off")
  g_is_contents : mg "is_contents" = some (.ref (He.ga K "is_contents"))
  b_isinstance : mg "isinstance" = none
  g_is_request : mg "is_request" = some (.ref (He.ga K "is_request"))
  g_are_requests : mg "are_requests" = some (.ref (He.ga K "are_requests"))
  c_OMISSIONS : ∃ u, mg "OMISSIONS" = some u ∧ RelV (.int 6) u
  g_Memory : mg "Memory" = some (.ref (He.ga K "Memory"))
  mk_Memory : Mk K (He.ga K "Memory") (He.ma K (He.ga K "Memory") "__init__")
  g_Driver : mg "Driver" = some (.ref (He.ga K "Driver"))
  mk_Driver : Mk K (He.ga K "Driver") (He.ma K (He.ga K "Driver") "__init__")
  g_Device : mg "Device" = some (.ref (He.ga K "Device"))
  mk_Device : Mk K (He.ga K "Device") (He.ma K (He.ga K "Device") "__init__")
  cl_World : Cls K (He.ga K "World")
  me_World__play_act : Meth K (He.ga K "World") "_play_act" (He.ma K (He.ga K "World") "_play_act")
  g_names_device : mg "names_device" = some (.ref (He.ga K "names_device"))
  me_Driver_step : Meth K (He.ga K "Driver") "step" (He.ma K (He.ga K "Driver") "step")
  me_World__play_device : Meth K (He.ga K "World") "_play_device" (He.ma K (He.ga K "World") "_play_device")
  me_World__play_guard : Meth K (He.ga K "World") "_play_guard" (He.ma K (He.ga K "World") "_play_guard")
  me_World__play_lie : Meth K (He.ga K "World") "_play_lie" (He.ma K (He.ga K "World") "_play_lie")
  cl_Device : Cls K (He.ga K "Device")
  me_Device_step : Meth K (He.ga K "Device") "step" (He.ma K (He.ga K "Device") "step")
  me_Guard_queue : Meth K (He.ga K "Guard") "queue" (He.ma K (He.ga K "Guard") "queue")
  g_is_lie : mg "is_lie" = some (.ref (He.ga K "is_lie"))
  b_abs : mg "abs" = none
  g__law_next : mg "_law_next" = some (.ref (He.ga K "_law_next"))
  b_min : mg "min" = none
  g__law_sent : mg "_law_sent" = some (.ref (He.ga K "_law_sent"))
  g__law_sending : mg "_law_sending" = some (.ref (He.ga K "_law_sending"))
  g__law_requests : mg "_law_requests" = some (.ref (He.ga K "_law_requests"))
  g_World : mg "World" = some (.ref (He.ga K "World"))
  mk_World : Mk K (He.ga K "World") (He.ma K (He.ga K "World") "__init__")
  g__law_due : mg "_law_due" = some (.ref (He.ga K "_law_due"))
  me_World_play : Meth K (He.ga K "World") "play" (He.ma K (He.ga K "World") "play")
  me_Driver_is_done : Meth K (He.ga K "Driver") "is_done" (He.ma K (He.ga K "Driver") "is_done")
  me_Memory_log : Meth K (He.ga K "Memory") "log" (He.ma K (He.ga K "Memory") "log")
  b_max : mg "max" = none
  me_Driver_under_way : Meth K (He.ga K "Driver") "under_way" (He.ma K (He.ga K "Driver") "under_way")
  me_Driver_free_frames : Meth K (He.ga K "Driver") "free_frames" (He.ma K (He.ga K "Driver") "free_frames")
  me_Driver_rows : Meth K (He.ga K "Driver") "rows" (He.ma K (He.ga K "Driver") "rows")
  na_Guard__entries : NoAttr K (He.ga K "Guard") "_entries"
  na_Guard__queue : NoAttr K (He.ga K "Guard") "_queue"
  na_Guard__tickets : NoAttr K (He.ga K "Guard") "_tickets"
  na_Memory_count : NoAttr K (He.ga K "Memory") "count"
  na_Memory_guards : NoAttr K (He.ga K "Memory") "guards"
  na_Memory__cells : NoAttr K (He.ga K "Memory") "_cells"
  na_Memory__blocks : NoAttr K (He.ga K "Memory") "_blocks"
  na_Memory__journals : NoAttr K (He.ga K "Memory") "_journals"
  na_Memory__log : NoAttr K (He.ga K "Memory") "_log"
  xc_NotValid : ExcC K (He.ga K "NotValid")
  exm_NotValid_RingError_T : PySem.W.exmOne K (.ref (He.ga K "NotValid")) (.ref (He.ga K "RingError")) = some true
  kit_NotValid_NotValid_T : PySem.W.kitOne K (.ref (He.ga K "NotValid")) (.ref (He.ga K "NotValid")) = some true
  g_law : mg "law" = some (.ref (He.ga K "law"))
  t_RIGHTS : ∀ H : Hp, SqT K H (He.ga K "RIGHTS") [V.str "r", V.str "w"]
  fo_FORMS__read : Form K "FORMS" "read" ["driver", "device"] ["integer"]
  fo_FORMS__write : Form K "FORMS" "write" ["driver", "device"] ["integer", "value"]
  fo_FORMS__dma_read : Form K "FORMS" "dma read" ["device"] ["page", "index"]
  fo_FORMS__dma_write : Form K "FORMS" "dma write" ["device"] ["page", "index", "value"]
  fo_FORMS__command : Form K "FORMS" "command" ["driver"] ["page"]
  fo_FORMS__drop : Form K "FORMS" "drop" ["guard"] []
  fo_FORMS__fetch : Form K "FORMS" "fetch" ["device"] ["block", "integer", "integer"]
  fo_FORMS__commit : Form K "FORMS" "commit" ["device"] ["block", "values", "integer", "integer"]
  fo_FORMS__journal : Form K "FORMS" "journal" ["driver"] []
  fo_FORMS__tell : Form K "FORMS" "tell" ["device"] ["rows"]
  t_KINDS : ∀ H : Hp, SqT K H (He.ga K "KINDS") [V.str "read", V.str "write"]
  na_Job_descriptor : NoAttr K (He.ga K "Job") "descriptor"
  na_Job__generation : NoAttr K (He.ga K "Job") "_generation"
  na_Job__made : NoAttr K (He.ga K "Job") "_made"
  na_Job__contents : NoAttr K (He.ga K "Job") "_contents"
  na_Device_generation : NoAttr K (He.ga K "Device") "generation"
  na_Device_taken : NoAttr K (He.ga K "Device") "taken"
  na_Device_completed : NoAttr K (He.ga K "Device") "completed"
  na_Device__memory : NoAttr K (He.ga K "Device") "_memory"
  na_Device__device : NoAttr K (He.ga K "Device") "_device"
  na_Device__jobs : NoAttr K (He.ga K "Device") "_jobs"
  na_Device__pending : NoAttr K (He.ga K "Device") "_pending"
  cl_Job : Cls K (He.ga K "Job")
  t_POOL : ∀ H : Hp, SqT K H (He.ga K "POOL") [V.int 2, V.int 3, V.int 4, V.int 5]
  t_RING_WORDS : Tu K "RING_WORDS" [[V.int 0, V.str "r"], [V.int 1, V.str "w"]]
  na_Driver_generation : NoAttr K (He.ga K "Driver") "generation"
  na_Driver_completions : NoAttr K (He.ga K "Driver") "completions"
  na_Driver_resets : NoAttr K (He.ga K "Driver") "resets"
  na_Driver_broken : NoAttr K (He.ga K "Driver") "broken"
  na_Driver__memory : NoAttr K (He.ga K "Driver") "_memory"
  na_Driver__device : NoAttr K (He.ga K "Driver") "_device"
  na_Driver__without : NoAttr K (He.ga K "Driver") "_without"
  na_Driver__clients : NoAttr K (He.ga K "Driver") "_clients"
  na_Driver__unsent : NoAttr K (He.ga K "Driver") "_unsent"
  na_Driver__under_way : NoAttr K (He.ga K "Driver") "_under_way"
  na_Driver__free : NoAttr K (He.ga K "Driver") "_free"
  na_Driver__sequence : NoAttr K (He.ga K "Driver") "_sequence"
  na_Driver__patience : NoAttr K (He.ga K "Driver") "_patience"
  na_Driver__is_wrong : NoAttr K (He.ga K "Driver") "_is_wrong"
  na_Driver__made : NoAttr K (He.ga K "Driver") "_made"
  na_Driver__sending : NoAttr K (He.ga K "Driver") "_sending"
  na_Driver__contents : NoAttr K (He.ga K "Driver") "_contents"
  na_Driver__left : NoAttr K (He.ga K "Driver") "_left"
  na_Driver__results : NoAttr K (He.ga K "Driver") "_results"
  na_Driver__then : NoAttr K (He.ga K "Driver") "_then"
  na_Driver__ticket : NoAttr K (He.ga K "Driver") "_ticket"
  na_Driver__behind : NoAttr K (He.ga K "Driver") "_behind"
  na_Driver__readings : NoAttr K (He.ga K "Driver") "_readings"
  na_Clients__errands : NoAttr K (He.ga K "Clients") "_errands"
  cl_Errand : Cls K (He.ga K "Errand")
  na_Errand_request : NoAttr K (He.ga K "Errand") "request"
  na_Errand_answer : NoAttr K (He.ga K "Errand") "answer"
  na_Errand_first : NoAttr K (He.ga K "Errand") "first"
  na_Errand_last : NoAttr K (He.ga K "Errand") "last"
  na_Errand_sendings : NoAttr K (He.ga K "Errand") "sendings"
  na_Sending_index : NoAttr K (He.ga K "Sending") "index"
  na_Sending_request : NoAttr K (He.ga K "Sending") "request"
  na_Sending_sequence : NoAttr K (He.ga K "Sending") "sequence"
  na_Sending_tag : NoAttr K (He.ga K "Sending") "tag"
  na_Sending_frame : NoAttr K (He.ga K "Sending") "frame"
  na_Sending_rung : NoAttr K (He.ga K "Sending") "rung"
  na_World_memory : NoAttr K (He.ga K "World") "memory"
  na_World_drivers : NoAttr K (He.ga K "World") "drivers"
  na_World_devices : NoAttr K (He.ga K "World") "devices"
  na_World__liars : NoAttr K (He.ga K "World") "_liars"
  d_is_integer : ∃ fd, FunD K "is_integer" "is_integer" (defArgs s_is_integer) (defBody s_is_integer) (defScope s_is_integer) [] [] (He.ga K "is_integer") fd
  d_is_number : ∃ fd, FunD K "is_number" "is_number" (defArgs s_is_number) (defBody s_is_number) (defScope s_is_number) [] [] (He.ga K "is_number") fd
  d_is_value : ∃ fd, FunD K "is_value" "is_value" (defArgs s_is_value) (defBody s_is_value) (defScope s_is_value) [] [] (He.ga K "is_value") fd
  d_is_word : ∃ fd, FunD K "is_word" "is_word" (defArgs s_is_word) (defBody s_is_word) (defScope s_is_word) [] [] (He.ga K "is_word") fd
  d_Guard___init__ : ∃ fd, FunD K "__init__" "Guard.__init__" (defArgs s_Guard___init__) (defBody s_Guard___init__) (defScope s_Guard___init__) [] [] (He.ma K (He.ga K "Guard") "__init__") fd
  d_Guard_use : ∃ fd, FunD K "use" "Guard.use" (defArgs s_Guard_use) (defBody s_Guard_use) (defScope s_Guard_use) [] [] (He.ma K (He.ga K "Guard") "use") fd
  d_Guard_command : ∃ fd, FunD K "command" "Guard.command" (defArgs s_Guard_command) (defBody s_Guard_command) (defScope s_Guard_command) [] [] (He.ma K (He.ga K "Guard") "command") fd
  d_Guard_drop : ∃ fd, FunD K "drop" "Guard.drop" (defArgs s_Guard_drop) (defBody s_Guard_drop) (defScope s_Guard_drop) [] [] (He.ma K (He.ga K "Guard") "drop") fd
  d_Guard_entries : ∃ fd, FunD K "entries" "Guard.entries" (defArgs s_Guard_entries) (defBody s_Guard_entries) (defScope s_Guard_entries) [] [] (He.ma K (He.ga K "Guard") "entries") fd
  d_Guard_queue : ∃ fd, FunD K "queue" "Guard.queue" (defArgs s_Guard_queue) (defBody s_Guard_queue) (defScope s_Guard_queue) [] [] (He.ma K (He.ga K "Guard") "queue") fd
  d_RingError___init__ : ∃ fd, FunD K "__init__" "RingError.__init__" (defArgs s_RingError___init__) (defBody s_RingError___init__) (defScope s_RingError___init__) [] [] (He.ma K (He.ga K "RingError") "__init__") fd
  d_NotValid___init__ : ∃ fd, FunD K "__init__" "NotValid.__init__" (defArgs s_NotValid___init__) (defBody s_NotValid___init__) (defScope s_NotValid___init__) [] [] (He.ma K (He.ga K "NotValid") "__init__") fd
  d_frame_cell : ∃ fd, FunD K "frame_cell" "frame_cell" (defArgs s_frame_cell) (defBody s_frame_cell) (defScope s_frame_cell) [] [] (He.ga K "frame_cell") fd
  d_doorbell : ∃ fd, FunD K "doorbell" "doorbell" (defArgs s_doorbell) (defBody s_doorbell) (defScope s_doorbell) [] [] (He.ga K "doorbell") fd
  d_reset : ∃ fd, FunD K "reset" "reset" (defArgs s_reset) (defBody s_reset) (defScope s_reset) [] [] (He.ga K "reset") fd
  d_ready : ∃ fd, FunD K "ready" "ready" (defArgs s_ready) (defBody s_ready) (defScope s_ready) [] [] (He.ga K "ready") fd
  d_interrupt : ∃ fd, FunD K "interrupt" "interrupt" (defArgs s_interrupt) (defBody s_interrupt) (defScope s_interrupt) [] [] (He.ga K "interrupt") fd
  d_table_word : ∃ fd, FunD K "table_word" "table_word" (defArgs s_table_word) (defBody s_table_word) (defScope s_table_word) [] [] (He.ga K "table_word") fd
  d_acknowledge : ∃ fd, FunD K "acknowledge" "acknowledge" (defArgs s_acknowledge) (defBody s_acknowledge) (defScope s_acknowledge) [] [] (He.ga K "acknowledge") fd
  d_first_cells : ∃ fd, FunD K "first_cells" "first_cells" (defArgs s_first_cells) (defBody s_first_cells) (defScope s_first_cells) [] [] (He.ga K "first_cells") fd
  d_is_tuple_of_values : ∃ fd, FunD K "is_tuple_of_values" "is_tuple_of_values" (defArgs s_is_tuple_of_values) (defBody s_is_tuple_of_values) (defScope s_is_tuple_of_values) [] [] (He.ga K "is_tuple_of_values") fd
  d_fits : ∃ fd, FunD K "fits" "fits" (defArgs s_fits) (defBody s_fits) (defScope s_fits) [] [] (He.ga K "fits") fd
  d_is_actor : ∃ fd, FunD K "is_actor" "is_actor" (defArgs s_is_actor) (defBody s_is_actor) (defScope s_is_actor) [] [] (He.ga K "is_actor") fd
  d_has_form : ∃ fd, FunD K "has_form" "has_form" (defArgs s_has_form) (defBody s_has_form) (defScope s_has_form) [] [] (He.ga K "has_form") fd
  d_stands_in : ∃ fd, FunD K "stands_in" "stands_in" (defArgs s_stands_in) (defBody s_stands_in) (defScope s_stands_in) [] [] (He.ga K "stands_in") fd
  d_is_register : ∃ fd, FunD K "is_register" "is_register" (defArgs s_is_register) (defBody s_is_register) (defScope s_is_register) [] [] (He.ga K "is_register") fd
  d_is_table_word : ∃ fd, FunD K "is_table_word" "is_table_word" (defArgs s_is_table_word) (defBody s_is_table_word) (defScope s_is_table_word) [] [] (He.ga K "is_table_word") fd
  d_may_reach : ∃ fd, FunD K "may_reach" "may_reach" (defArgs s_may_reach) (defBody s_may_reach) (defScope s_may_reach) [] [] (He.ga K "may_reach") fd
  d_is_allowed : ∃ fd, FunD K "is_allowed" "is_allowed" (defArgs s_is_allowed) (defBody s_is_allowed) (defScope s_is_allowed) [] [] (He.ga K "is_allowed") fd
  d_Memory___init__ : ∃ fd, FunD K "__init__" "Memory.__init__" (defArgs s_Memory___init__) (defBody s_Memory___init__) (defScope s_Memory___init__) [] [] (He.ma K (He.ga K "Memory") "__init__") fd
  d_Memory_access : ∃ fd, FunD K "access" "Memory.access" (defArgs s_Memory_access) (defBody s_Memory_access) (defScope s_Memory_access) [] [] (He.ma K (He.ga K "Memory") "access") fd
  d_Memory_block : ∃ fd, FunD K "block" "Memory.block" (defArgs s_Memory_block) (defBody s_Memory_block) (defScope s_Memory_block) [] [] (He.ma K (He.ga K "Memory") "block") fd
  d_Memory_journal : ∃ fd, FunD K "journal" "Memory.journal" (defArgs s_Memory_journal) (defBody s_Memory_journal) (defScope s_Memory_journal) [] [] (He.ma K (He.ga K "Memory") "journal") fd
  d_Memory_log : ∃ fd, FunD K "log" "Memory.log" (defArgs s_Memory_log) (defBody s_Memory_log) (defScope s_Memory_log) [] [] (He.ma K (He.ga K "Memory") "log") fd
  d_Memory__result_of : ∃ fd, FunD K "_result_of" "Memory._result_of" (defArgs s_Memory__result_of) (defBody s_Memory__result_of) (defScope s_Memory__result_of) [] [] (He.ma K (He.ga K "Memory") "_result_of") fd
  d_Memory__dma_cell : ∃ fd, FunD K "_dma_cell" "Memory._dma_cell" (defArgs s_Memory__dma_cell) (defBody s_Memory__dma_cell) (defScope s_Memory__dma_cell) [] [] (He.ma K (He.ga K "Memory") "_dma_cell") fd
  d_Memory__dma_read : ∃ fd, FunD K "_dma_read" "Memory._dma_read" (defArgs s_Memory__dma_read) (defBody s_Memory__dma_read) (defScope s_Memory__dma_read) [] [] (He.ma K (He.ga K "Memory") "_dma_read") fd
  d_Memory__dma_write : ∃ fd, FunD K "_dma_write" "Memory._dma_write" (defArgs s_Memory__dma_write) (defBody s_Memory__dma_write) (defScope s_Memory__dma_write) [] [] (He.ma K (He.ga K "Memory") "_dma_write") fd
  d_Memory__drop : ∃ fd, FunD K "_drop" "Memory._drop" (defArgs s_Memory__drop) (defBody s_Memory__drop) (defScope s_Memory__drop) [] [] (He.ma K (He.ga K "Memory") "_drop") fd
  d_buffer_page : ∃ fd, FunD K "buffer_page" "buffer_page" (defArgs s_buffer_page) (defBody s_buffer_page) (defScope s_buffer_page) [] [] (He.ga K "buffer_page") fd
  d_slot_of : ∃ fd, FunD K "slot_of" "slot_of" (defArgs s_slot_of) (defBody s_slot_of) (defScope s_slot_of) [] [] (He.ga K "slot_of") fd
  d_phase_of : ∃ fd, FunD K "phase_of" "phase_of" (defArgs s_phase_of) (defBody s_phase_of) (defScope s_phase_of) [] [] (He.ga K "phase_of") fd
  d_is_tag : ∃ fd, FunD K "is_tag" "is_tag" (defArgs s_is_tag) (defBody s_is_tag) (defScope s_is_tag) [] [] (He.ga K "is_tag") fd
  d_is_order : ∃ fd, FunD K "is_order" "is_order" (defArgs s_is_order) (defBody s_is_order) (defScope s_is_order) [] [] (He.ga K "is_order") fd
  d_is_entry_number : ∃ fd, FunD K "is_entry_number" "is_entry_number" (defArgs s_is_entry_number) (defBody s_is_entry_number) (defScope s_is_entry_number) [] [] (He.ga K "is_entry_number") fd
  d_descriptor : ∃ fd, FunD K "descriptor" "descriptor" (defArgs s_descriptor) (defBody s_descriptor) (defScope s_descriptor) [] [] (He.ga K "descriptor") fd
  d_is_completion : ∃ fd, FunD K "is_completion" "is_completion" (defArgs s_is_completion) (defBody s_is_completion) (defScope s_is_completion) [] [] (He.ga K "is_completion") fd
  d_is_new_completion : ∃ fd, FunD K "is_new_completion" "is_new_completion" (defArgs s_is_new_completion) (defBody s_is_new_completion) (defScope s_is_new_completion) [] [] (He.ga K "is_new_completion") fd
  d_Device___init__ : ∃ fd, FunD K "__init__" "Device.__init__" (defArgs s_Device___init__) (defBody s_Device___init__) (defScope s_Device___init__) [] [] (He.ma K (He.ga K "Device") "__init__") fd
  d_ring_cell : ∃ fd, FunD K "ring_cell" "ring_cell" (defArgs s_ring_cell) (defBody s_ring_cell) (defScope s_ring_cell) [] [] (He.ga K "ring_cell") fd
  d_lend_rings : ∃ fd, FunD K "lend_rings" "lend_rings" (defArgs s_lend_rings) (defBody s_lend_rings) (defScope s_lend_rings) [] [] (He.ga K "lend_rings") fd
  d_fill_frame : ∃ fd, FunD K "fill_frame" "fill_frame" (defArgs s_fill_frame) (defBody s_fill_frame) (defScope s_fill_frame) [] [] (He.ga K "fill_frame") fd
  d_hand_over : ∃ fd, FunD K "hand_over" "hand_over" (defArgs s_hand_over) (defBody s_hand_over) (defScope s_hand_over) [] [] (He.ga K "hand_over") fd
  d_take_back : ∃ fd, FunD K "take_back" "take_back" (defArgs s_take_back) (defBody s_take_back) (defScope s_take_back) [] [] (He.ga K "take_back") fd
  d_Errand___init__ : ∃ fd, FunD K "__init__" "Errand.__init__" (defArgs s_Errand___init__) (defBody s_Errand___init__) (defScope s_Errand___init__) [] [] (He.ma K (He.ga K "Errand") "__init__") fd
  d_Clients___init__ : ∃ fd, FunD K "__init__" "Clients.__init__" (defArgs s_Clients___init__) (defBody s_Clients___init__) (defScope s_Clients___init__) [] [] (He.ma K (He.ga K "Clients") "__init__") fd
  d_Clients_request_at : ∃ fd, FunD K "request_at" "Clients.request_at" (defArgs s_Clients_request_at) (defBody s_Clients_request_at) (defScope s_Clients_request_at) [] [] (He.ma K (He.ga K "Clients") "request_at") fd
  d_Clients_begin : ∃ fd, FunD K "begin" "Clients.begin" (defArgs s_Clients_begin) (defBody s_Clients_begin) (defScope s_Clients_begin) [] [] (He.ma K (He.ga K "Clients") "begin") fd
  d_Clients_end_sending : ∃ fd, FunD K "end_sending" "Clients.end_sending" (defArgs s_Clients_end_sending) (defBody s_Clients_end_sending) (defScope s_Clients_end_sending) [] [] (He.ma K (He.ga K "Clients") "end_sending") fd
  d_Clients_settle : ∃ fd, FunD K "settle" "Clients.settle" (defArgs s_Clients_settle) (defBody s_Clients_settle) (defScope s_Clients_settle) [] [] (He.ma K (He.ga K "Clients") "settle") fd
  d_Clients_break_off : ∃ fd, FunD K "break_off" "Clients.break_off" (defArgs s_Clients_break_off) (defBody s_Clients_break_off) (defScope s_Clients_break_off) [] [] (He.ma K (He.ga K "Clients") "break_off") fd
  d_Clients_is_done : ∃ fd, FunD K "is_done" "Clients.is_done" (defArgs s_Clients_is_done) (defBody s_Clients_is_done) (defScope s_Clients_is_done) [] [] (He.ma K (He.ga K "Clients") "is_done") fd
  d_Clients_rows : ∃ fd, FunD K "rows" "Clients.rows" (defArgs s_Clients_rows) (defBody s_Clients_rows) (defScope s_Clients_rows) [] [] (He.ma K (He.ga K "Clients") "rows") fd
  d_Sending___init__ : ∃ fd, FunD K "__init__" "Sending.__init__" (defArgs s_Sending___init__) (defBody s_Sending___init__) (defScope s_Sending___init__) [] [] (He.ma K (He.ga K "Sending") "__init__") fd
  d_Sending_is_read : ∃ fd, FunD K "is_read" "Sending.is_read" (defArgs s_Sending_is_read) (defBody s_Sending_is_read) (defScope s_Sending_is_read) [] [] (He.ma K (He.ga K "Sending") "is_read") fd
  d_Driver___init__ : ∃ fd, FunD K "__init__" "Driver.__init__" (defArgs s_Driver___init__) (defBody s_Driver___init__) (defScope s_Driver___init__) [V.int 0] [] (He.ma K (He.ga K "Driver") "__init__") fd
  d_Driver_step : ∃ fd, FunD K "step" "Driver.step" (defArgs s_Driver_step) (defBody s_Driver_step) (defScope s_Driver_step) [] [] (He.ma K (He.ga K "Driver") "step") fd
  d_Driver_rows : ∃ fd, FunD K "rows" "Driver.rows" (defArgs s_Driver_rows) (defBody s_Driver_rows) (defScope s_Driver_rows) [] [] (He.ma K (He.ga K "Driver") "rows") fd
  d_Driver_under_way : ∃ fd, FunD K "under_way" "Driver.under_way" (defArgs s_Driver_under_way) (defBody s_Driver_under_way) (defScope s_Driver_under_way) [] [] (He.ma K (He.ga K "Driver") "under_way") fd
  d_Driver_free_frames : ∃ fd, FunD K "free_frames" "Driver.free_frames" (defArgs s_Driver_free_frames) (defBody s_Driver_free_frames) (defScope s_Driver_free_frames) [] [] (He.ma K (He.ga K "Driver") "free_frames") fd
  d_Driver_is_done : ∃ fd, FunD K "is_done" "Driver.is_done" (defArgs s_Driver_is_done) (defBody s_Driver_is_done) (defScope s_Driver_is_done) [] [] (He.ma K (He.ga K "Driver") "is_done") fd
  d_Driver__sendings : ∃ fd, FunD K "_sendings" "Driver._sendings" (defArgs s_Driver__sendings) (defBody s_Driver__sendings) (defScope s_Driver__sendings) [] [] (He.ma K (He.ga K "Driver") "_sendings") fd
  d_Driver__make : ∃ fd, FunD K "_make" "Driver._make" (defArgs s_Driver__make) (defBody s_Driver__make) (defScope s_Driver__make) [] [] (He.ma K (He.ga K "Driver") "_make") fd
  d_Driver__rest : ∃ fd, FunD K "_rest" "Driver._rest" (defArgs s_Driver__rest) (defBody s_Driver__rest) (defScope s_Driver__rest) [] [] (He.ma K (He.ga K "Driver") "_rest") fd
  d_Driver__choose : ∃ fd, FunD K "_choose" "Driver._choose" (defArgs s_Driver__choose) (defBody s_Driver__choose) (defScope s_Driver__choose) [] [] (He.ma K (He.ga K "Driver") "_choose") fd
  d_Driver__must_reset : ∃ fd, FunD K "_must_reset" "Driver._must_reset" (defArgs s_Driver__must_reset) (defBody s_Driver__must_reset) (defScope s_Driver__must_reset) [] [] (He.ma K (He.ga K "Driver") "_must_reset") fd
  d_Driver__may_send : ∃ fd, FunD K "_may_send" "Driver._may_send" (defArgs s_Driver__may_send) (defBody s_Driver__may_send) (defScope s_Driver__may_send) [] [] (He.ma K (He.ga K "Driver") "_may_send") fd
  d_Driver__begin_sending : ∃ fd, FunD K "_begin_sending" "Driver._begin_sending" (defArgs s_Driver__begin_sending) (defBody s_Driver__begin_sending) (defScope s_Driver__begin_sending) [] [] (He.ma K (He.ga K "Driver") "_begin_sending") fd
  d_Driver__first_contents : ∃ fd, FunD K "_first_contents" "Driver._first_contents" (defArgs s_Driver__first_contents) (defBody s_Driver__first_contents) (defScope s_Driver__first_contents) [] [] (He.ma K (He.ga K "Driver") "_first_contents") fd
  d_Driver__end_sending : ∃ fd, FunD K "_end_sending" "Driver._end_sending" (defArgs s_Driver__end_sending) (defBody s_Driver__end_sending) (defScope s_Driver__end_sending) [] [] (He.ma K (He.ga K "Driver") "_end_sending") fd
  d_Driver__take_interrupt : ∃ fd, FunD K "_take_interrupt" "Driver._take_interrupt" (defArgs s_Driver__take_interrupt) (defBody s_Driver__take_interrupt) (defScope s_Driver__take_interrupt) [] [] (He.ma K (He.ga K "Driver") "_take_interrupt") fd
  d_Driver__take_completion : ∃ fd, FunD K "_take_completion" "Driver._take_completion" (defArgs s_Driver__take_completion) (defBody s_Driver__take_completion) (defScope s_Driver__take_completion) [] [] (He.ma K (He.ga K "Driver") "_take_completion") fd
  d_Driver__is_new : ∃ fd, FunD K "_is_new" "Driver._is_new" (defArgs s_Driver__is_new) (defBody s_Driver__is_new) (defScope s_Driver__is_new) [] [] (He.ma K (He.ga K "Driver") "_is_new") fd
  d_Driver__begin_finishing : ∃ fd, FunD K "_begin_finishing" "Driver._begin_finishing" (defArgs s_Driver__begin_finishing) (defBody s_Driver__begin_finishing) (defScope s_Driver__begin_finishing) [] [] (He.ma K (He.ga K "Driver") "_begin_finishing") fd
  d_Driver__take_back : ∃ fd, FunD K "_take_back" "Driver._take_back" (defArgs s_Driver__take_back) (defBody s_Driver__take_back) (defScope s_Driver__take_back) [] [] (He.ma K (He.ga K "Driver") "_take_back") fd
  d_Driver__take_ticket : ∃ fd, FunD K "_take_ticket" "Driver._take_ticket" (defArgs s_Driver__take_ticket) (defBody s_Driver__take_ticket) (defScope s_Driver__take_ticket) [] [] (He.ma K (He.ga K "Driver") "_take_ticket") fd
  d_Driver__look_for_ticket : ∃ fd, FunD K "_look_for_ticket" "Driver._look_for_ticket" (defArgs s_Driver__look_for_ticket) (defBody s_Driver__look_for_ticket) (defScope s_Driver__look_for_ticket) [] [] (He.ma K (He.ga K "Driver") "_look_for_ticket") fd
  d_Driver__take_acknowledge : ∃ fd, FunD K "_take_acknowledge" "Driver._take_acknowledge" (defArgs s_Driver__take_acknowledge) (defBody s_Driver__take_acknowledge) (defScope s_Driver__take_acknowledge) [] [] (He.ma K (He.ga K "Driver") "_take_acknowledge") fd
  d_Driver__begin_reset : ∃ fd, FunD K "_begin_reset" "Driver._begin_reset" (defArgs s_Driver__begin_reset) (defBody s_Driver__begin_reset) (defScope s_Driver__begin_reset) [] [] (He.ma K (He.ga K "Driver") "_begin_reset") fd
  d_Driver__ask_for_reset : ∃ fd, FunD K "_ask_for_reset" "Driver._ask_for_reset" (defArgs s_Driver__ask_for_reset) (defBody s_Driver__ask_for_reset) (defScope s_Driver__ask_for_reset) [] [] (He.ma K (He.ga K "Driver") "_ask_for_reset") fd
  d_Driver__take_ready : ∃ fd, FunD K "_take_ready" "Driver._take_ready" (defArgs s_Driver__take_ready) (defBody s_Driver__take_ready) (defScope s_Driver__take_ready) [] [] (He.ma K (He.ga K "Driver") "_take_ready") fd
  d_Driver__break : ∃ fd, FunD K "_break" "Driver._break" (defArgs s_Driver__break) (defBody s_Driver__break) (defScope s_Driver__break) [] [] (He.ma K (He.ga K "Driver") "_break") fd
  d_Driver__take_journal : ∃ fd, FunD K "_take_journal" "Driver._take_journal" (defArgs s_Driver__take_journal) (defBody s_Driver__take_journal) (defScope s_Driver__take_journal) [] [] (He.ma K (He.ga K "Driver") "_take_journal") fd
  d_is_contents : ∃ fd, FunD K "is_contents" "is_contents" (defArgs s_is_contents) (defBody s_is_contents) (defScope s_is_contents) [] [] (He.ga K "is_contents") fd
  d_is_request : ∃ fd, FunD K "is_request" "is_request" (defArgs s_is_request) (defBody s_is_request) (defScope s_is_request) [] [] (He.ga K "is_request") fd
  d_are_requests : ∃ fd, FunD K "are_requests" "are_requests" (defArgs s_are_requests) (defBody s_are_requests) (defScope s_are_requests) [] [] (He.ga K "are_requests") fd
  d_names_device : ∃ fd, FunD K "names_device" "names_device" (defArgs s_names_device) (defBody s_names_device) (defScope s_names_device) [] [] (He.ga K "names_device") fd
  d_World___init__ : ∃ fd, FunD K "__init__" "World.__init__" (defArgs s_World___init__) (defBody s_World___init__) (defScope s_World___init__) [V.int 0] [] (He.ma K (He.ga K "World") "__init__") fd
  d_World_play : ∃ fd, FunD K "play" "World.play" (defArgs s_World_play) (defBody s_World_play) (defScope s_World_play) [] [] (He.ma K (He.ga K "World") "play") fd
  d_World__play_act : ∃ fd, FunD K "_play_act" "World._play_act" (defArgs s_World__play_act) (defBody s_World__play_act) (defScope s_World__play_act) [] [] (He.ma K (He.ga K "World") "_play_act") fd
  d_World__play_device : ∃ fd, FunD K "_play_device" "World._play_device" (defArgs s_World__play_device) (defBody s_World__play_device) (defScope s_World__play_device) [] [] (He.ma K (He.ga K "World") "_play_device") fd
  d_World__play_guard : ∃ fd, FunD K "_play_guard" "World._play_guard" (defArgs s_World__play_guard) (defBody s_World__play_guard) (defScope s_World__play_guard) [] [] (He.ma K (He.ga K "World") "_play_guard") fd
  d_World__play_lie : ∃ fd, FunD K "_play_lie" "World._play_lie" (defArgs s_World__play_lie) (defBody s_World__play_lie) (defScope s_World__play_lie) [] [] (He.ma K (He.ga K "World") "_play_lie") fd
  d__law_next : ∃ fd, FunD K "_law_next" "_law_next" (defArgs s__law_next) (defBody s__law_next) (defScope s__law_next) [] [] (He.ga K "_law_next") fd
  d__law_requests : ∃ fd, FunD K "_law_requests" "_law_requests" (defArgs s__law_requests) (defBody s__law_requests) (defScope s__law_requests) [] [] (He.ga K "_law_requests") fd
  d__law_sending : ∃ fd, FunD K "_law_sending" "_law_sending" (defArgs s__law_sending) (defBody s__law_sending) (defScope s__law_sending) [] [] (He.ga K "_law_sending") fd
  d__law_sent : ∃ fd, FunD K "_law_sent" "_law_sent" (defArgs s__law_sent) (defBody s__law_sent) (defScope s__law_sent) [] [] (He.ga K "_law_sent") fd
  d__law_due : ∃ fd, FunD K "_law_due" "_law_due" (defArgs s__law_due) (defBody s__law_due) (defScope s__law_due) [] [] (He.ga K "_law_due") fd
  d_law : ∃ fd, FunD K "law" "law" (defArgs s_law) (defBody s_law) (defScope s_law) [] [] (He.ga K "law") fd
def fa : List He.Fa := [.free "type",
  .free "int",
  .glo "is_integer",
  .free "tuple",
  .free "str",
  .free "len",
  .glo "is_number",
  .int "FRAMES" 6,
  .glo "RIGHTS",
  .free "sorted",
  .free "list",
  .free "ValueError",
  .glo "RingError",
  .int "CELLS" 4,
  .glo "frame_cell",
  .int "DEVICES" 2,
  .int "REGISTERS" 4,
  .glo "doorbell",
  .int "PAGES" 6,
  .glo "table_word",
  .glo "acknowledge",
  .free "range",
  .int "RING_FRAMES" 2,
  .glo "is_value",
  .int "BLOCKS" 8,
  .glo "is_tuple_of_values",
  .glo "FORMS",
  .free "all",
  .free "zip",
  .glo "fits",
  .glo "stands_in",
  .glo "is_register",
  .glo "is_table_word",
  .glo "is_actor",
  .glo "has_form",
  .glo "may_reach",
  .glo "is_word",
  .glo "Guard",
  .mkr "Guard",
  .glo "first_cells",
  .glo "is_allowed",
  .glo "NotValid",
  .cls "Memory",
  .meth "Memory" "_result_of",
  .meth "Memory" "_dma_read",
  .meth "Memory" "_dma_write",
  .cls "Guard",
  .meth "Guard" "command",
  .meth "Memory" "_drop",
  .meth "Guard" "use",
  .meth "Memory" "_dma_cell",
  .meth "Guard" "drop",
  .int "FIRST_BUFFER" 2,
  .int "SLOTS" 4,
  .int "TAGS" 4,
  .glo "is_tag",
  .glo "KINDS",
  .glo "is_order",
  .glo "is_entry_number",
  .glo "phase_of",
  .str "DONE" "done",
  .int "PHASES" 2,
  .glo "is_completion",
  .glo "slot_of",
  .free "enumerate",
  .glo "RING_WORDS",
  .glo "buffer_page",
  .glo "ring_cell",
  .int "SUBMISSIONS" 0,
  .glo "descriptor",
  .glo "Errand",
  .mkr "Errand",
  .cls "Clients",
  .meth "Clients" "settle",
  .glo "Clients",
  .mkr "Clients",
  .glo "POOL",
  .cls "Driver",
  .meth "Driver" "_make",
  .glo "lend_rings",
  .meth "Driver" "_rest",
  .meth "Driver" "_choose",
  .meth "Memory" "access",
  .meth "Clients" "rows",
  .meth "Driver" "_sendings",
  .meth "Clients" "is_done",
  .meth "Driver" "_must_reset",
  .meth "Driver" "_begin_reset",
  .meth "Driver" "_may_send",
  .meth "Driver" "_begin_sending",
  .glo "interrupt",
  .meth "Driver" "_take_interrupt",
  .free "any",
  .int "MOST_ACCESSES" 200,
  .int "MOST_UNDER_WAY" 3,
  .meth "Clients" "request_at",
  .cls "Sending",
  .meth "Sending" "is_read",
  .glo "Sending",
  .mkr "Sending",
  .meth "Clients" "begin",
  .glo "fill_frame",
  .meth "Driver" "_first_contents",
  .glo "hand_over",
  .meth "Driver" "_end_sending",
  .int "ZEROS" 2,
  .meth "Clients" "end_sending",
  .int "COMPLETIONS" 1,
  .meth "Driver" "_take_completion",
  .int "MOST_PATIENCE" 4,
  .meth "Driver" "_is_new",
  .meth "Driver" "_begin_finishing",
  .int "PHASE" 3,
  .glo "is_new_completion",
  .glo "take_back",
  .meth "Driver" "_take_ticket",
  .int "WAITING" 1,
  .meth "Driver" "_look_for_ticket",
  .meth "Driver" "_take_acknowledge",
  .meth "Driver" "_take_back",
  .meth "Driver" "_ask_for_reset",
  .glo "reset",
  .glo "ready",
  .meth "Driver" "_take_ready",
  .meth "Driver" "_take_journal",
  .int "MOST_READINGS" 100,
  .meth "Driver" "_break",
  .meth "Clients" "break_off",
  .glo "is_contents",
  .free "isinstance",
  .glo "is_request",
  .glo "are_requests",
  .int "OMISSIONS" 6,
  .glo "Memory",
  .mkr "Memory",
  .glo "Driver",
  .mkr "Driver",
  .glo "Device",
  .mkr "Device",
  .cls "World",
  .meth "World" "_play_act",
  .glo "names_device",
  .meth "Driver" "step",
  .meth "World" "_play_device",
  .meth "World" "_play_guard",
  .meth "World" "_play_lie",
  .cls "Device",
  .meth "Device" "step",
  .meth "Guard" "queue",
  .glo "is_lie",
  .free "abs",
  .glo "_law_next",
  .free "min",
  .glo "_law_sent",
  .glo "_law_sending",
  .glo "_law_requests",
  .glo "World",
  .mkr "World",
  .glo "_law_due",
  .meth "World" "play",
  .meth "Driver" "is_done",
  .meth "Memory" "log",
  .free "max",
  .meth "Driver" "under_way",
  .meth "Driver" "free_frames",
  .meth "Driver" "rows",
  .noat "Guard" "_entries",
  .noat "Guard" "_queue",
  .noat "Guard" "_tickets",
  .noat "Memory" "count",
  .noat "Memory" "guards",
  .noat "Memory" "_cells",
  .noat "Memory" "_blocks",
  .noat "Memory" "_journals",
  .noat "Memory" "_log",
  .exm "NotValid" "RingError" true,
  .glo "law",
  .noat "Job" "descriptor",
  .noat "Job" "_generation",
  .noat "Job" "_made",
  .noat "Job" "_contents",
  .noat "Device" "generation",
  .noat "Device" "taken",
  .noat "Device" "completed",
  .noat "Device" "_memory",
  .noat "Device" "_device",
  .noat "Device" "_jobs",
  .noat "Device" "_pending",
  .cls "Job",
  .noat "Driver" "generation",
  .noat "Driver" "completions",
  .noat "Driver" "resets",
  .noat "Driver" "broken",
  .noat "Driver" "_memory",
  .noat "Driver" "_device",
  .noat "Driver" "_without",
  .noat "Driver" "_clients",
  .noat "Driver" "_unsent",
  .noat "Driver" "_under_way",
  .noat "Driver" "_free",
  .noat "Driver" "_sequence",
  .noat "Driver" "_patience",
  .noat "Driver" "_is_wrong",
  .noat "Driver" "_made",
  .noat "Driver" "_sending",
  .noat "Driver" "_contents",
  .noat "Driver" "_left",
  .noat "Driver" "_results",
  .noat "Driver" "_then",
  .noat "Driver" "_ticket",
  .noat "Driver" "_behind",
  .noat "Driver" "_readings",
  .noat "Clients" "_errands",
  .cls "Errand",
  .noat "Errand" "request",
  .noat "Errand" "answer",
  .noat "Errand" "first",
  .noat "Errand" "last",
  .noat "Errand" "sendings",
  .noat "Sending" "index",
  .noat "Sending" "request",
  .noat "Sending" "sequence",
  .noat "Sending" "tag",
  .noat "Sending" "frame",
  .noat "Sending" "rung",
  .noat "World" "memory",
  .noat "World" "drivers",
  .noat "World" "devices",
  .noat "World" "_liars"]
def exs : List Ex := [.vei,
  .clf "RingError" "__init__",
  .oex "NotValid",
  .ity "NotValid" "__init__",
  .fact (bmB "Driver" "_rest"),
  .fact (bmB "Driver" "_take_interrupt"),
  .fact (bmB "Driver" "_end_sending"),
  .fact (bmB "Driver" "_take_completion"),
  .fact (bmB "Driver" "_take_ticket"),
  .fact (bmB "Driver" "_take_acknowledge"),
  .fact (bmB "Driver" "_ask_for_reset"),
  .fact (bmB "Driver" "_take_ready"),
  .fact (bmB "Driver" "_take_journal"),
  .exi "NotValid",
  .kit "NotValid" "NotValid" true,
  .tup "RIGHTS" [.str "r", .str "w"],
  .fact (formB "FORMS" "read" ["driver", "device"] ["integer"]),
  .fact (formB "FORMS" "write" ["driver", "device"] ["integer", "value"]),
  .fact (formB "FORMS" "dma read" ["device"] ["page", "index"]),
  .fact (formB "FORMS" "dma write" ["device"] ["page", "index", "value"]),
  .fact (formB "FORMS" "command" ["driver"] ["page"]),
  .fact (formB "FORMS" "drop" ["guard"] []),
  .fact (formB "FORMS" "fetch" ["device"] ["block", "integer", "integer"]),
  .fact (formB "FORMS" "commit" ["device"] ["block", "values", "integer", "integer"]),
  .fact (formB "FORMS" "journal" ["driver"] []),
  .fact (formB "FORMS" "tell" ["device"] ["rows"]),
  .tup "KINDS" [.str "read", .str "write"],
  .tup "POOL" [.int 2, .int 3, .int 4, .int 5],
  .fact (tuB "RING_WORDS" [[V.int 0, V.str "r"], [V.int 1, V.str "w"]])]
def fn : List He.DefD := [d_is_integer,
  d_is_number,
  d_is_value,
  d_is_word,
  d_Guard___init__,
  d_Guard_use,
  d_Guard_command,
  d_Guard_drop,
  d_Guard_entries,
  d_Guard_queue,
  d_RingError___init__,
  d_NotValid___init__,
  d_frame_cell,
  d_doorbell,
  d_reset,
  d_ready,
  d_interrupt,
  d_table_word,
  d_acknowledge,
  d_first_cells,
  d_is_tuple_of_values,
  d_fits,
  d_is_actor,
  d_has_form,
  d_stands_in,
  d_is_register,
  d_is_table_word,
  d_may_reach,
  d_is_allowed,
  d_Memory___init__,
  d_Memory_access,
  d_Memory_block,
  d_Memory_journal,
  d_Memory_log,
  d_Memory__result_of,
  d_Memory__dma_cell,
  d_Memory__dma_read,
  d_Memory__dma_write,
  d_Memory__drop,
  d_buffer_page,
  d_slot_of,
  d_phase_of,
  d_is_tag,
  d_is_order,
  d_is_entry_number,
  d_descriptor,
  d_is_completion,
  d_is_new_completion,
  d_Device___init__,
  d_ring_cell,
  d_lend_rings,
  d_fill_frame,
  d_hand_over,
  d_take_back,
  d_Errand___init__,
  d_Clients___init__,
  d_Clients_request_at,
  d_Clients_begin,
  d_Clients_end_sending,
  d_Clients_settle,
  d_Clients_break_off,
  d_Clients_is_done,
  d_Clients_rows,
  d_Sending___init__,
  d_Sending_is_read,
  d_Driver___init__,
  d_Driver_step,
  d_Driver_rows,
  d_Driver_under_way,
  d_Driver_free_frames,
  d_Driver_is_done,
  d_Driver__sendings,
  d_Driver__make,
  d_Driver__rest,
  d_Driver__choose,
  d_Driver__must_reset,
  d_Driver__may_send,
  d_Driver__begin_sending,
  d_Driver__first_contents,
  d_Driver__end_sending,
  d_Driver__take_interrupt,
  d_Driver__take_completion,
  d_Driver__is_new,
  d_Driver__begin_finishing,
  d_Driver__take_back,
  d_Driver__take_ticket,
  d_Driver__look_for_ticket,
  d_Driver__take_acknowledge,
  d_Driver__begin_reset,
  d_Driver__ask_for_reset,
  d_Driver__take_ready,
  d_Driver__break,
  d_Driver__take_journal,
  d_is_contents,
  d_is_request,
  d_are_requests,
  d_names_device,
  d_World___init__,
  d_World_play,
  d_World__play_act,
  d_World__play_device,
  d_World__play_guard,
  d_World__play_lie,
  d__law_next,
  d__law_requests,
  d__law_sending,
  d__law_sent,
  d__law_due,
  d_law]
def ts : List He.Tab := [(fun K => He.ga K "FORMS", ["read", "write", "dma read", "dma write", "command", "drop", "fetch", "commit", "journal", "tell"])]
theorem tab_FORMS {w : World} {K : PySem.W.Frag} (c : SaysR fa fn ts exs w K) : ∃ es n, KDict K w (He.ga K "FORMS") es n := c.t.tab 0
theorem top_of {w : World} {h : Heap} {K : PySem.W.Frag} {mg : Str → Option Value} (X : K.In h) (G : h.Ns mainGlobals mg) (c : SaysR fa fn ts exs w K) : Top K mg where
  b_type := He.free_ok X G (c.t.d.fact 0 (f := .free "type") rfl)
  b_int := He.free_ok X G (c.t.d.fact 1 (f := .free "int") rfl)
  g_is_integer := He.glo_ok X G (c.t.d.fact 2 (f := .glo "is_integer") rfl)
  b_tuple := He.free_ok X G (c.t.d.fact 3 (f := .free "tuple") rfl)
  b_str := He.free_ok X G (c.t.d.fact 4 (f := .free "str") rfl)
  b_len := He.free_ok X G (c.t.d.fact 5 (f := .free "len") rfl)
  g_is_number := He.glo_ok X G (c.t.d.fact 6 (f := .glo "is_number") rfl)
  c_FRAMES := int_at X G (c.t.d.fact 7 (f := .int "FRAMES" 6) rfl)
  c_RIGHTS := ⟨_, He.glo_ok X G (c.t.d.fact 8 (f := .glo "RIGHTS") rfl), rfl⟩
  b_sorted := He.free_ok X G (c.t.d.fact 9 (f := .free "sorted") rfl)
  b_list := He.free_ok X G (c.t.d.fact 10 (f := .free "list") rfl)
  b_ValueError := He.free_ok X G (c.t.d.fact 11 (f := .free "ValueError") rfl)
  vei := vei_ok (ex_at c 0 (f := .vei) rfl)
  cf_RingError___init__ := clf_ok (ex_at c 1 (f := .clf "RingError" "__init__") rfl)
  g_RingError := He.glo_ok X G (c.t.d.fact 12 (f := .glo "RingError") rfl)
  c_CELLS := int_at X G (c.t.d.fact 13 (f := .int "CELLS" 4) rfl)
  g_frame_cell := He.glo_ok X G (c.t.d.fact 14 (f := .glo "frame_cell") rfl)
  c_DEVICES := int_at X G (c.t.d.fact 15 (f := .int "DEVICES" 2) rfl)
  c_REGISTERS := int_at X G (c.t.d.fact 16 (f := .int "REGISTERS" 4) rfl)
  g_doorbell := He.glo_ok X G (c.t.d.fact 17 (f := .glo "doorbell") rfl)
  c_PAGES := int_at X G (c.t.d.fact 18 (f := .int "PAGES" 6) rfl)
  g_table_word := He.glo_ok X G (c.t.d.fact 19 (f := .glo "table_word") rfl)
  g_acknowledge := He.glo_ok X G (c.t.d.fact 20 (f := .glo "acknowledge") rfl)
  b_range := He.free_ok X G (c.t.d.fact 21 (f := .free "range") rfl)
  c_RING_FRAMES := int_at X G (c.t.d.fact 22 (f := .int "RING_FRAMES" 2) rfl)
  g_is_value := He.glo_ok X G (c.t.d.fact 23 (f := .glo "is_value") rfl)
  c_BLOCKS := int_at X G (c.t.d.fact 24 (f := .int "BLOCKS" 8) rfl)
  g_is_tuple_of_values := He.glo_ok X G (c.t.d.fact 25 (f := .glo "is_tuple_of_values") rfl)
  c_FORMS := ⟨_, He.glo_ok X G (c.t.d.fact 26 (f := .glo "FORMS") rfl), rfl⟩
  b_all := He.free_ok X G (c.t.d.fact 27 (f := .free "all") rfl)
  b_zip := He.free_ok X G (c.t.d.fact 28 (f := .free "zip") rfl)
  g_fits := He.glo_ok X G (c.t.d.fact 29 (f := .glo "fits") rfl)
  g_stands_in := He.glo_ok X G (c.t.d.fact 30 (f := .glo "stands_in") rfl)
  g_is_register := He.glo_ok X G (c.t.d.fact 31 (f := .glo "is_register") rfl)
  g_is_table_word := He.glo_ok X G (c.t.d.fact 32 (f := .glo "is_table_word") rfl)
  g_is_actor := He.glo_ok X G (c.t.d.fact 33 (f := .glo "is_actor") rfl)
  g_has_form := He.glo_ok X G (c.t.d.fact 34 (f := .glo "has_form") rfl)
  g_may_reach := He.glo_ok X G (c.t.d.fact 35 (f := .glo "may_reach") rfl)
  g_is_word := He.glo_ok X G (c.t.d.fact 36 (f := .glo "is_word") rfl)
  g_Guard := He.glo_ok X G (c.t.d.fact 37 (f := .glo "Guard") rfl)
  mk_Guard := He.mkr_ok (c.t.d.fact 38 (f := .mkr "Guard") rfl)
  g_first_cells := He.glo_ok X G (c.t.d.fact 39 (f := .glo "first_cells") rfl)
  g_is_allowed := He.glo_ok X G (c.t.d.fact 40 (f := .glo "is_allowed") rfl)
  ex_NotValid := oex_ok (ex_at c 2 (f := .oex "NotValid") rfl)
  ini_NotValid := (ity_ok (ex_at c 3 (f := .ity "NotValid" "__init__") rfl)).1
  ity_NotValid := (ity_ok (ex_at c 3 (f := .ity "NotValid" "__init__") rfl)).2
  g_NotValid := He.glo_ok X G (c.t.d.fact 41 (f := .glo "NotValid") rfl)
  cl_Memory := He.cls_ok (c.t.d.fact 42 (f := .cls "Memory") rfl)
  me_Memory__result_of := He.meth_ok (c.t.d.fact 43 (f := .meth "Memory" "_result_of") rfl)
  me_Memory__dma_read := He.meth_ok (c.t.d.fact 44 (f := .meth "Memory" "_dma_read") rfl)
  me_Memory__dma_write := He.meth_ok (c.t.d.fact 45 (f := .meth "Memory" "_dma_write") rfl)
  cl_Guard := He.cls_ok (c.t.d.fact 46 (f := .cls "Guard") rfl)
  me_Guard_command := He.meth_ok (c.t.d.fact 47 (f := .meth "Guard" "command") rfl)
  me_Memory__drop := He.meth_ok (c.t.d.fact 48 (f := .meth "Memory" "_drop") rfl)
  me_Guard_use := He.meth_ok (c.t.d.fact 49 (f := .meth "Guard" "use") rfl)
  me_Memory__dma_cell := He.meth_ok (c.t.d.fact 50 (f := .meth "Memory" "_dma_cell") rfl)
  me_Guard_drop := He.meth_ok (c.t.d.fact 51 (f := .meth "Guard" "drop") rfl)
  c_FIRST_BUFFER := int_at X G (c.t.d.fact 52 (f := .int "FIRST_BUFFER" 2) rfl)
  c_SLOTS := int_at X G (c.t.d.fact 53 (f := .int "SLOTS" 4) rfl)
  c_TAGS := int_at X G (c.t.d.fact 54 (f := .int "TAGS" 4) rfl)
  g_is_tag := He.glo_ok X G (c.t.d.fact 55 (f := .glo "is_tag") rfl)
  c_KINDS := ⟨_, He.glo_ok X G (c.t.d.fact 56 (f := .glo "KINDS") rfl), rfl⟩
  g_is_order := He.glo_ok X G (c.t.d.fact 57 (f := .glo "is_order") rfl)
  g_is_entry_number := He.glo_ok X G (c.t.d.fact 58 (f := .glo "is_entry_number") rfl)
  g_phase_of := He.glo_ok X G (c.t.d.fact 59 (f := .glo "phase_of") rfl)
  c_DONE := str_at X G (c.t.d.fact 60 (f := .str "DONE" "done") rfl)
  c_PHASES := int_at X G (c.t.d.fact 61 (f := .int "PHASES" 2) rfl)
  g_is_completion := He.glo_ok X G (c.t.d.fact 62 (f := .glo "is_completion") rfl)
  g_slot_of := He.glo_ok X G (c.t.d.fact 63 (f := .glo "slot_of") rfl)
  b_enumerate := He.free_ok X G (c.t.d.fact 64 (f := .free "enumerate") rfl)
  c_RING_WORDS := ⟨_, He.glo_ok X G (c.t.d.fact 65 (f := .glo "RING_WORDS") rfl), rfl⟩
  g_buffer_page := He.glo_ok X G (c.t.d.fact 66 (f := .glo "buffer_page") rfl)
  g_ring_cell := He.glo_ok X G (c.t.d.fact 67 (f := .glo "ring_cell") rfl)
  c_SUBMISSIONS := int_at X G (c.t.d.fact 68 (f := .int "SUBMISSIONS" 0) rfl)
  g_descriptor := He.glo_ok X G (c.t.d.fact 69 (f := .glo "descriptor") rfl)
  g_Errand := He.glo_ok X G (c.t.d.fact 70 (f := .glo "Errand") rfl)
  mk_Errand := He.mkr_ok (c.t.d.fact 71 (f := .mkr "Errand") rfl)
  cl_Clients := He.cls_ok (c.t.d.fact 72 (f := .cls "Clients") rfl)
  me_Clients_settle := He.meth_ok (c.t.d.fact 73 (f := .meth "Clients" "settle") rfl)
  g_Clients := He.glo_ok X G (c.t.d.fact 74 (f := .glo "Clients") rfl)
  mk_Clients := He.mkr_ok (c.t.d.fact 75 (f := .mkr "Clients") rfl)
  c_POOL := ⟨_, He.glo_ok X G (c.t.d.fact 76 (f := .glo "POOL") rfl), rfl⟩
  cl_Driver := He.cls_ok (c.t.d.fact 77 (f := .cls "Driver") rfl)
  me_Driver__make := He.meth_ok (c.t.d.fact 78 (f := .meth "Driver" "_make") rfl)
  g_lend_rings := He.glo_ok X G (c.t.d.fact 79 (f := .glo "lend_rings") rfl)
  bm_Driver__rest := bm_ok (ex_at c 4 (f := .fact (bmB "Driver" "_rest")) rfl)
  me_Driver__rest := He.meth_ok (c.t.d.fact 80 (f := .meth "Driver" "_rest") rfl)
  me_Driver__choose := He.meth_ok (c.t.d.fact 81 (f := .meth "Driver" "_choose") rfl)
  me_Memory_access := He.meth_ok (c.t.d.fact 82 (f := .meth "Memory" "access") rfl)
  me_Clients_rows := He.meth_ok (c.t.d.fact 83 (f := .meth "Clients" "rows") rfl)
  me_Driver__sendings := He.meth_ok (c.t.d.fact 84 (f := .meth "Driver" "_sendings") rfl)
  me_Clients_is_done := He.meth_ok (c.t.d.fact 85 (f := .meth "Clients" "is_done") rfl)
  me_Driver__must_reset := He.meth_ok (c.t.d.fact 86 (f := .meth "Driver" "_must_reset") rfl)
  me_Driver__begin_reset := He.meth_ok (c.t.d.fact 87 (f := .meth "Driver" "_begin_reset") rfl)
  me_Driver__may_send := He.meth_ok (c.t.d.fact 88 (f := .meth "Driver" "_may_send") rfl)
  me_Driver__begin_sending := He.meth_ok (c.t.d.fact 89 (f := .meth "Driver" "_begin_sending") rfl)
  g_interrupt := He.glo_ok X G (c.t.d.fact 90 (f := .glo "interrupt") rfl)
  bm_Driver__take_interrupt := bm_ok (ex_at c 5 (f := .fact (bmB "Driver" "_take_interrupt")) rfl)
  me_Driver__take_interrupt := He.meth_ok (c.t.d.fact 91 (f := .meth "Driver" "_take_interrupt") rfl)
  b_any := He.free_ok X G (c.t.d.fact 92 (f := .free "any") rfl)
  c_MOST_ACCESSES := int_at X G (c.t.d.fact 93 (f := .int "MOST_ACCESSES" 200) rfl)
  c_MOST_UNDER_WAY := int_at X G (c.t.d.fact 94 (f := .int "MOST_UNDER_WAY" 3) rfl)
  me_Clients_request_at := He.meth_ok (c.t.d.fact 95 (f := .meth "Clients" "request_at") rfl)
  cl_Sending := He.cls_ok (c.t.d.fact 96 (f := .cls "Sending") rfl)
  me_Sending_is_read := He.meth_ok (c.t.d.fact 97 (f := .meth "Sending" "is_read") rfl)
  g_Sending := He.glo_ok X G (c.t.d.fact 98 (f := .glo "Sending") rfl)
  mk_Sending := He.mkr_ok (c.t.d.fact 99 (f := .mkr "Sending") rfl)
  me_Clients_begin := He.meth_ok (c.t.d.fact 100 (f := .meth "Clients" "begin") rfl)
  g_fill_frame := He.glo_ok X G (c.t.d.fact 101 (f := .glo "fill_frame") rfl)
  me_Driver__first_contents := He.meth_ok (c.t.d.fact 102 (f := .meth "Driver" "_first_contents") rfl)
  g_hand_over := He.glo_ok X G (c.t.d.fact 103 (f := .glo "hand_over") rfl)
  bm_Driver__end_sending := bm_ok (ex_at c 6 (f := .fact (bmB "Driver" "_end_sending")) rfl)
  me_Driver__end_sending := He.meth_ok (c.t.d.fact 104 (f := .meth "Driver" "_end_sending") rfl)
  c_ZEROS := int_at X G (c.t.d.fact 105 (f := .int "ZEROS" 2) rfl)
  me_Clients_end_sending := He.meth_ok (c.t.d.fact 106 (f := .meth "Clients" "end_sending") rfl)
  c_COMPLETIONS := int_at X G (c.t.d.fact 107 (f := .int "COMPLETIONS" 1) rfl)
  bm_Driver__take_completion := bm_ok (ex_at c 7 (f := .fact (bmB "Driver" "_take_completion")) rfl)
  me_Driver__take_completion := He.meth_ok (c.t.d.fact 108 (f := .meth "Driver" "_take_completion") rfl)
  c_MOST_PATIENCE := int_at X G (c.t.d.fact 109 (f := .int "MOST_PATIENCE" 4) rfl)
  me_Driver__is_new := He.meth_ok (c.t.d.fact 110 (f := .meth "Driver" "_is_new") rfl)
  me_Driver__begin_finishing := He.meth_ok (c.t.d.fact 111 (f := .meth "Driver" "_begin_finishing") rfl)
  c_PHASE := int_at X G (c.t.d.fact 112 (f := .int "PHASE" 3) rfl)
  g_is_new_completion := He.glo_ok X G (c.t.d.fact 113 (f := .glo "is_new_completion") rfl)
  g_take_back := He.glo_ok X G (c.t.d.fact 114 (f := .glo "take_back") rfl)
  bm_Driver__take_ticket := bm_ok (ex_at c 8 (f := .fact (bmB "Driver" "_take_ticket")) rfl)
  me_Driver__take_ticket := He.meth_ok (c.t.d.fact 115 (f := .meth "Driver" "_take_ticket") rfl)
  c_WAITING := int_at X G (c.t.d.fact 116 (f := .int "WAITING" 1) rfl)
  me_Driver__look_for_ticket := He.meth_ok (c.t.d.fact 117 (f := .meth "Driver" "_look_for_ticket") rfl)
  bm_Driver__take_acknowledge := bm_ok (ex_at c 9 (f := .fact (bmB "Driver" "_take_acknowledge")) rfl)
  me_Driver__take_acknowledge := He.meth_ok (c.t.d.fact 118 (f := .meth "Driver" "_take_acknowledge") rfl)
  me_Driver__take_back := He.meth_ok (c.t.d.fact 119 (f := .meth "Driver" "_take_back") rfl)
  bm_Driver__ask_for_reset := bm_ok (ex_at c 10 (f := .fact (bmB "Driver" "_ask_for_reset")) rfl)
  me_Driver__ask_for_reset := He.meth_ok (c.t.d.fact 120 (f := .meth "Driver" "_ask_for_reset") rfl)
  g_reset := He.glo_ok X G (c.t.d.fact 121 (f := .glo "reset") rfl)
  g_ready := He.glo_ok X G (c.t.d.fact 122 (f := .glo "ready") rfl)
  bm_Driver__take_ready := bm_ok (ex_at c 11 (f := .fact (bmB "Driver" "_take_ready")) rfl)
  me_Driver__take_ready := He.meth_ok (c.t.d.fact 123 (f := .meth "Driver" "_take_ready") rfl)
  bm_Driver__take_journal := bm_ok (ex_at c 12 (f := .fact (bmB "Driver" "_take_journal")) rfl)
  me_Driver__take_journal := He.meth_ok (c.t.d.fact 124 (f := .meth "Driver" "_take_journal") rfl)
  c_MOST_READINGS := int_at X G (c.t.d.fact 125 (f := .int "MOST_READINGS" 100) rfl)
  me_Driver__break := He.meth_ok (c.t.d.fact 126 (f := .meth "Driver" "_break") rfl)
  me_Clients_break_off := He.meth_ok (c.t.d.fact 127 (f := .meth "Clients" "break_off") rfl)
  g_is_contents := He.glo_ok X G (c.t.d.fact 128 (f := .glo "is_contents") rfl)
  b_isinstance := He.free_ok X G (c.t.d.fact 129 (f := .free "isinstance") rfl)
  g_is_request := He.glo_ok X G (c.t.d.fact 130 (f := .glo "is_request") rfl)
  g_are_requests := He.glo_ok X G (c.t.d.fact 131 (f := .glo "are_requests") rfl)
  c_OMISSIONS := int_at X G (c.t.d.fact 132 (f := .int "OMISSIONS" 6) rfl)
  g_Memory := He.glo_ok X G (c.t.d.fact 133 (f := .glo "Memory") rfl)
  mk_Memory := He.mkr_ok (c.t.d.fact 134 (f := .mkr "Memory") rfl)
  g_Driver := He.glo_ok X G (c.t.d.fact 135 (f := .glo "Driver") rfl)
  mk_Driver := He.mkr_ok (c.t.d.fact 136 (f := .mkr "Driver") rfl)
  g_Device := He.glo_ok X G (c.t.d.fact 137 (f := .glo "Device") rfl)
  mk_Device := He.mkr_ok (c.t.d.fact 138 (f := .mkr "Device") rfl)
  cl_World := He.cls_ok (c.t.d.fact 139 (f := .cls "World") rfl)
  me_World__play_act := He.meth_ok (c.t.d.fact 140 (f := .meth "World" "_play_act") rfl)
  g_names_device := He.glo_ok X G (c.t.d.fact 141 (f := .glo "names_device") rfl)
  me_Driver_step := He.meth_ok (c.t.d.fact 142 (f := .meth "Driver" "step") rfl)
  me_World__play_device := He.meth_ok (c.t.d.fact 143 (f := .meth "World" "_play_device") rfl)
  me_World__play_guard := He.meth_ok (c.t.d.fact 144 (f := .meth "World" "_play_guard") rfl)
  me_World__play_lie := He.meth_ok (c.t.d.fact 145 (f := .meth "World" "_play_lie") rfl)
  cl_Device := He.cls_ok (c.t.d.fact 146 (f := .cls "Device") rfl)
  me_Device_step := He.meth_ok (c.t.d.fact 147 (f := .meth "Device" "step") rfl)
  me_Guard_queue := He.meth_ok (c.t.d.fact 148 (f := .meth "Guard" "queue") rfl)
  g_is_lie := He.glo_ok X G (c.t.d.fact 149 (f := .glo "is_lie") rfl)
  b_abs := He.free_ok X G (c.t.d.fact 150 (f := .free "abs") rfl)
  g__law_next := He.glo_ok X G (c.t.d.fact 151 (f := .glo "_law_next") rfl)
  b_min := He.free_ok X G (c.t.d.fact 152 (f := .free "min") rfl)
  g__law_sent := He.glo_ok X G (c.t.d.fact 153 (f := .glo "_law_sent") rfl)
  g__law_sending := He.glo_ok X G (c.t.d.fact 154 (f := .glo "_law_sending") rfl)
  g__law_requests := He.glo_ok X G (c.t.d.fact 155 (f := .glo "_law_requests") rfl)
  g_World := He.glo_ok X G (c.t.d.fact 156 (f := .glo "World") rfl)
  mk_World := He.mkr_ok (c.t.d.fact 157 (f := .mkr "World") rfl)
  g__law_due := He.glo_ok X G (c.t.d.fact 158 (f := .glo "_law_due") rfl)
  me_World_play := He.meth_ok (c.t.d.fact 159 (f := .meth "World" "play") rfl)
  me_Driver_is_done := He.meth_ok (c.t.d.fact 160 (f := .meth "Driver" "is_done") rfl)
  me_Memory_log := He.meth_ok (c.t.d.fact 161 (f := .meth "Memory" "log") rfl)
  b_max := He.free_ok X G (c.t.d.fact 162 (f := .free "max") rfl)
  me_Driver_under_way := He.meth_ok (c.t.d.fact 163 (f := .meth "Driver" "under_way") rfl)
  me_Driver_free_frames := He.meth_ok (c.t.d.fact 164 (f := .meth "Driver" "free_frames") rfl)
  me_Driver_rows := He.meth_ok (c.t.d.fact 165 (f := .meth "Driver" "rows") rfl)
  na_Guard__entries := He.noat_ok (c.t.d.fact 166 (f := .noat "Guard" "_entries") rfl)
  na_Guard__queue := He.noat_ok (c.t.d.fact 167 (f := .noat "Guard" "_queue") rfl)
  na_Guard__tickets := He.noat_ok (c.t.d.fact 168 (f := .noat "Guard" "_tickets") rfl)
  na_Memory_count := He.noat_ok (c.t.d.fact 169 (f := .noat "Memory" "count") rfl)
  na_Memory_guards := He.noat_ok (c.t.d.fact 170 (f := .noat "Memory" "guards") rfl)
  na_Memory__cells := He.noat_ok (c.t.d.fact 171 (f := .noat "Memory" "_cells") rfl)
  na_Memory__blocks := He.noat_ok (c.t.d.fact 172 (f := .noat "Memory" "_blocks") rfl)
  na_Memory__journals := He.noat_ok (c.t.d.fact 173 (f := .noat "Memory" "_journals") rfl)
  na_Memory__log := He.noat_ok (c.t.d.fact 174 (f := .noat "Memory" "_log") rfl)
  xc_NotValid := exi_ok (ex_at c 13 (f := .exi "NotValid") rfl)
  exm_NotValid_RingError_T := He.exm_ok (c.t.d.fact 175 (f := .exm "NotValid" "RingError" true) rfl)
  kit_NotValid_NotValid_T := kit_ok (ex_at c 14 (f := .kit "NotValid" "NotValid" true) rfl)
  g_law := He.glo_ok X G (c.t.d.fact 176 (f := .glo "law") rfl)
  t_RIGHTS := tup_ok (ex_at c 15 (f := .tup "RIGHTS" [.str "r", .str "w"]) rfl)
  fo_FORMS__read := form_ok (ex_at c 16 (f := .fact (formB "FORMS" "read" ["driver", "device"] ["integer"])) rfl)
  fo_FORMS__write := form_ok (ex_at c 17 (f := .fact (formB "FORMS" "write" ["driver", "device"] ["integer", "value"])) rfl)
  fo_FORMS__dma_read := form_ok (ex_at c 18 (f := .fact (formB "FORMS" "dma read" ["device"] ["page", "index"])) rfl)
  fo_FORMS__dma_write := form_ok (ex_at c 19 (f := .fact (formB "FORMS" "dma write" ["device"] ["page", "index", "value"])) rfl)
  fo_FORMS__command := form_ok (ex_at c 20 (f := .fact (formB "FORMS" "command" ["driver"] ["page"])) rfl)
  fo_FORMS__drop := form_ok (ex_at c 21 (f := .fact (formB "FORMS" "drop" ["guard"] [])) rfl)
  fo_FORMS__fetch := form_ok (ex_at c 22 (f := .fact (formB "FORMS" "fetch" ["device"] ["block", "integer", "integer"])) rfl)
  fo_FORMS__commit := form_ok (ex_at c 23 (f := .fact (formB "FORMS" "commit" ["device"] ["block", "values", "integer", "integer"])) rfl)
  fo_FORMS__journal := form_ok (ex_at c 24 (f := .fact (formB "FORMS" "journal" ["driver"] [])) rfl)
  fo_FORMS__tell := form_ok (ex_at c 25 (f := .fact (formB "FORMS" "tell" ["device"] ["rows"])) rfl)
  t_KINDS := tup_ok (ex_at c 26 (f := .tup "KINDS" [.str "read", .str "write"]) rfl)
  na_Job_descriptor := He.noat_ok (c.t.d.fact 177 (f := .noat "Job" "descriptor") rfl)
  na_Job__generation := He.noat_ok (c.t.d.fact 178 (f := .noat "Job" "_generation") rfl)
  na_Job__made := He.noat_ok (c.t.d.fact 179 (f := .noat "Job" "_made") rfl)
  na_Job__contents := He.noat_ok (c.t.d.fact 180 (f := .noat "Job" "_contents") rfl)
  na_Device_generation := He.noat_ok (c.t.d.fact 181 (f := .noat "Device" "generation") rfl)
  na_Device_taken := He.noat_ok (c.t.d.fact 182 (f := .noat "Device" "taken") rfl)
  na_Device_completed := He.noat_ok (c.t.d.fact 183 (f := .noat "Device" "completed") rfl)
  na_Device__memory := He.noat_ok (c.t.d.fact 184 (f := .noat "Device" "_memory") rfl)
  na_Device__device := He.noat_ok (c.t.d.fact 185 (f := .noat "Device" "_device") rfl)
  na_Device__jobs := He.noat_ok (c.t.d.fact 186 (f := .noat "Device" "_jobs") rfl)
  na_Device__pending := He.noat_ok (c.t.d.fact 187 (f := .noat "Device" "_pending") rfl)
  cl_Job := He.cls_ok (c.t.d.fact 188 (f := .cls "Job") rfl)
  t_POOL := tup_ok (ex_at c 27 (f := .tup "POOL" [.int 2, .int 3, .int 4, .int 5]) rfl)
  t_RING_WORDS := tu_ok (ex_at c 28 (f := .fact (tuB "RING_WORDS" [[V.int 0, V.str "r"], [V.int 1, V.str "w"]])) rfl)
  na_Driver_generation := He.noat_ok (c.t.d.fact 189 (f := .noat "Driver" "generation") rfl)
  na_Driver_completions := He.noat_ok (c.t.d.fact 190 (f := .noat "Driver" "completions") rfl)
  na_Driver_resets := He.noat_ok (c.t.d.fact 191 (f := .noat "Driver" "resets") rfl)
  na_Driver_broken := He.noat_ok (c.t.d.fact 192 (f := .noat "Driver" "broken") rfl)
  na_Driver__memory := He.noat_ok (c.t.d.fact 193 (f := .noat "Driver" "_memory") rfl)
  na_Driver__device := He.noat_ok (c.t.d.fact 194 (f := .noat "Driver" "_device") rfl)
  na_Driver__without := He.noat_ok (c.t.d.fact 195 (f := .noat "Driver" "_without") rfl)
  na_Driver__clients := He.noat_ok (c.t.d.fact 196 (f := .noat "Driver" "_clients") rfl)
  na_Driver__unsent := He.noat_ok (c.t.d.fact 197 (f := .noat "Driver" "_unsent") rfl)
  na_Driver__under_way := He.noat_ok (c.t.d.fact 198 (f := .noat "Driver" "_under_way") rfl)
  na_Driver__free := He.noat_ok (c.t.d.fact 199 (f := .noat "Driver" "_free") rfl)
  na_Driver__sequence := He.noat_ok (c.t.d.fact 200 (f := .noat "Driver" "_sequence") rfl)
  na_Driver__patience := He.noat_ok (c.t.d.fact 201 (f := .noat "Driver" "_patience") rfl)
  na_Driver__is_wrong := He.noat_ok (c.t.d.fact 202 (f := .noat "Driver" "_is_wrong") rfl)
  na_Driver__made := He.noat_ok (c.t.d.fact 203 (f := .noat "Driver" "_made") rfl)
  na_Driver__sending := He.noat_ok (c.t.d.fact 204 (f := .noat "Driver" "_sending") rfl)
  na_Driver__contents := He.noat_ok (c.t.d.fact 205 (f := .noat "Driver" "_contents") rfl)
  na_Driver__left := He.noat_ok (c.t.d.fact 206 (f := .noat "Driver" "_left") rfl)
  na_Driver__results := He.noat_ok (c.t.d.fact 207 (f := .noat "Driver" "_results") rfl)
  na_Driver__then := He.noat_ok (c.t.d.fact 208 (f := .noat "Driver" "_then") rfl)
  na_Driver__ticket := He.noat_ok (c.t.d.fact 209 (f := .noat "Driver" "_ticket") rfl)
  na_Driver__behind := He.noat_ok (c.t.d.fact 210 (f := .noat "Driver" "_behind") rfl)
  na_Driver__readings := He.noat_ok (c.t.d.fact 211 (f := .noat "Driver" "_readings") rfl)
  na_Clients__errands := He.noat_ok (c.t.d.fact 212 (f := .noat "Clients" "_errands") rfl)
  cl_Errand := He.cls_ok (c.t.d.fact 213 (f := .cls "Errand") rfl)
  na_Errand_request := He.noat_ok (c.t.d.fact 214 (f := .noat "Errand" "request") rfl)
  na_Errand_answer := He.noat_ok (c.t.d.fact 215 (f := .noat "Errand" "answer") rfl)
  na_Errand_first := He.noat_ok (c.t.d.fact 216 (f := .noat "Errand" "first") rfl)
  na_Errand_last := He.noat_ok (c.t.d.fact 217 (f := .noat "Errand" "last") rfl)
  na_Errand_sendings := He.noat_ok (c.t.d.fact 218 (f := .noat "Errand" "sendings") rfl)
  na_Sending_index := He.noat_ok (c.t.d.fact 219 (f := .noat "Sending" "index") rfl)
  na_Sending_request := He.noat_ok (c.t.d.fact 220 (f := .noat "Sending" "request") rfl)
  na_Sending_sequence := He.noat_ok (c.t.d.fact 221 (f := .noat "Sending" "sequence") rfl)
  na_Sending_tag := He.noat_ok (c.t.d.fact 222 (f := .noat "Sending" "tag") rfl)
  na_Sending_frame := He.noat_ok (c.t.d.fact 223 (f := .noat "Sending" "frame") rfl)
  na_Sending_rung := He.noat_ok (c.t.d.fact 224 (f := .noat "Sending" "rung") rfl)
  na_World_memory := He.noat_ok (c.t.d.fact 225 (f := .noat "World" "memory") rfl)
  na_World_drivers := He.noat_ok (c.t.d.fact 226 (f := .noat "World" "drivers") rfl)
  na_World_devices := He.noat_ok (c.t.d.fact 227 (f := .noat "World" "devices") rfl)
  na_World__liars := He.noat_ok (c.t.d.fact 228 (f := .noat "World" "_liars") rfl)
  d_is_integer := c.t.d.def_ 0 (d := d_is_integer) rfl
  d_is_number := c.t.d.def_ 1 (d := d_is_number) rfl
  d_is_value := c.t.d.def_ 2 (d := d_is_value) rfl
  d_is_word := c.t.d.def_ 3 (d := d_is_word) rfl
  d_Guard___init__ := c.t.d.def_ 4 (d := d_Guard___init__) rfl
  d_Guard_use := c.t.d.def_ 5 (d := d_Guard_use) rfl
  d_Guard_command := c.t.d.def_ 6 (d := d_Guard_command) rfl
  d_Guard_drop := c.t.d.def_ 7 (d := d_Guard_drop) rfl
  d_Guard_entries := c.t.d.def_ 8 (d := d_Guard_entries) rfl
  d_Guard_queue := c.t.d.def_ 9 (d := d_Guard_queue) rfl
  d_RingError___init__ := c.t.d.def_ 10 (d := d_RingError___init__) rfl
  d_NotValid___init__ := c.t.d.def_ 11 (d := d_NotValid___init__) rfl
  d_frame_cell := c.t.d.def_ 12 (d := d_frame_cell) rfl
  d_doorbell := c.t.d.def_ 13 (d := d_doorbell) rfl
  d_reset := c.t.d.def_ 14 (d := d_reset) rfl
  d_ready := c.t.d.def_ 15 (d := d_ready) rfl
  d_interrupt := c.t.d.def_ 16 (d := d_interrupt) rfl
  d_table_word := c.t.d.def_ 17 (d := d_table_word) rfl
  d_acknowledge := c.t.d.def_ 18 (d := d_acknowledge) rfl
  d_first_cells := c.t.d.def_ 19 (d := d_first_cells) rfl
  d_is_tuple_of_values := c.t.d.def_ 20 (d := d_is_tuple_of_values) rfl
  d_fits := c.t.d.def_ 21 (d := d_fits) rfl
  d_is_actor := c.t.d.def_ 22 (d := d_is_actor) rfl
  d_has_form := c.t.d.def_ 23 (d := d_has_form) rfl
  d_stands_in := c.t.d.def_ 24 (d := d_stands_in) rfl
  d_is_register := c.t.d.def_ 25 (d := d_is_register) rfl
  d_is_table_word := c.t.d.def_ 26 (d := d_is_table_word) rfl
  d_may_reach := c.t.d.def_ 27 (d := d_may_reach) rfl
  d_is_allowed := c.t.d.def_ 28 (d := d_is_allowed) rfl
  d_Memory___init__ := c.t.d.def_ 29 (d := d_Memory___init__) rfl
  d_Memory_access := c.t.d.def_ 30 (d := d_Memory_access) rfl
  d_Memory_block := c.t.d.def_ 31 (d := d_Memory_block) rfl
  d_Memory_journal := c.t.d.def_ 32 (d := d_Memory_journal) rfl
  d_Memory_log := c.t.d.def_ 33 (d := d_Memory_log) rfl
  d_Memory__result_of := c.t.d.def_ 34 (d := d_Memory__result_of) rfl
  d_Memory__dma_cell := c.t.d.def_ 35 (d := d_Memory__dma_cell) rfl
  d_Memory__dma_read := c.t.d.def_ 36 (d := d_Memory__dma_read) rfl
  d_Memory__dma_write := c.t.d.def_ 37 (d := d_Memory__dma_write) rfl
  d_Memory__drop := c.t.d.def_ 38 (d := d_Memory__drop) rfl
  d_buffer_page := c.t.d.def_ 39 (d := d_buffer_page) rfl
  d_slot_of := c.t.d.def_ 40 (d := d_slot_of) rfl
  d_phase_of := c.t.d.def_ 41 (d := d_phase_of) rfl
  d_is_tag := c.t.d.def_ 42 (d := d_is_tag) rfl
  d_is_order := c.t.d.def_ 43 (d := d_is_order) rfl
  d_is_entry_number := c.t.d.def_ 44 (d := d_is_entry_number) rfl
  d_descriptor := c.t.d.def_ 45 (d := d_descriptor) rfl
  d_is_completion := c.t.d.def_ 46 (d := d_is_completion) rfl
  d_is_new_completion := c.t.d.def_ 47 (d := d_is_new_completion) rfl
  d_Device___init__ := c.t.d.def_ 48 (d := d_Device___init__) rfl
  d_ring_cell := c.t.d.def_ 49 (d := d_ring_cell) rfl
  d_lend_rings := c.t.d.def_ 50 (d := d_lend_rings) rfl
  d_fill_frame := c.t.d.def_ 51 (d := d_fill_frame) rfl
  d_hand_over := c.t.d.def_ 52 (d := d_hand_over) rfl
  d_take_back := c.t.d.def_ 53 (d := d_take_back) rfl
  d_Errand___init__ := c.t.d.def_ 54 (d := d_Errand___init__) rfl
  d_Clients___init__ := c.t.d.def_ 55 (d := d_Clients___init__) rfl
  d_Clients_request_at := c.t.d.def_ 56 (d := d_Clients_request_at) rfl
  d_Clients_begin := c.t.d.def_ 57 (d := d_Clients_begin) rfl
  d_Clients_end_sending := c.t.d.def_ 58 (d := d_Clients_end_sending) rfl
  d_Clients_settle := c.t.d.def_ 59 (d := d_Clients_settle) rfl
  d_Clients_break_off := c.t.d.def_ 60 (d := d_Clients_break_off) rfl
  d_Clients_is_done := c.t.d.def_ 61 (d := d_Clients_is_done) rfl
  d_Clients_rows := c.t.d.def_ 62 (d := d_Clients_rows) rfl
  d_Sending___init__ := c.t.d.def_ 63 (d := d_Sending___init__) rfl
  d_Sending_is_read := c.t.d.def_ 64 (d := d_Sending_is_read) rfl
  d_Driver___init__ := c.t.d.def_ 65 (d := d_Driver___init__) rfl
  d_Driver_step := c.t.d.def_ 66 (d := d_Driver_step) rfl
  d_Driver_rows := c.t.d.def_ 67 (d := d_Driver_rows) rfl
  d_Driver_under_way := c.t.d.def_ 68 (d := d_Driver_under_way) rfl
  d_Driver_free_frames := c.t.d.def_ 69 (d := d_Driver_free_frames) rfl
  d_Driver_is_done := c.t.d.def_ 70 (d := d_Driver_is_done) rfl
  d_Driver__sendings := c.t.d.def_ 71 (d := d_Driver__sendings) rfl
  d_Driver__make := c.t.d.def_ 72 (d := d_Driver__make) rfl
  d_Driver__rest := c.t.d.def_ 73 (d := d_Driver__rest) rfl
  d_Driver__choose := c.t.d.def_ 74 (d := d_Driver__choose) rfl
  d_Driver__must_reset := c.t.d.def_ 75 (d := d_Driver__must_reset) rfl
  d_Driver__may_send := c.t.d.def_ 76 (d := d_Driver__may_send) rfl
  d_Driver__begin_sending := c.t.d.def_ 77 (d := d_Driver__begin_sending) rfl
  d_Driver__first_contents := c.t.d.def_ 78 (d := d_Driver__first_contents) rfl
  d_Driver__end_sending := c.t.d.def_ 79 (d := d_Driver__end_sending) rfl
  d_Driver__take_interrupt := c.t.d.def_ 80 (d := d_Driver__take_interrupt) rfl
  d_Driver__take_completion := c.t.d.def_ 81 (d := d_Driver__take_completion) rfl
  d_Driver__is_new := c.t.d.def_ 82 (d := d_Driver__is_new) rfl
  d_Driver__begin_finishing := c.t.d.def_ 83 (d := d_Driver__begin_finishing) rfl
  d_Driver__take_back := c.t.d.def_ 84 (d := d_Driver__take_back) rfl
  d_Driver__take_ticket := c.t.d.def_ 85 (d := d_Driver__take_ticket) rfl
  d_Driver__look_for_ticket := c.t.d.def_ 86 (d := d_Driver__look_for_ticket) rfl
  d_Driver__take_acknowledge := c.t.d.def_ 87 (d := d_Driver__take_acknowledge) rfl
  d_Driver__begin_reset := c.t.d.def_ 88 (d := d_Driver__begin_reset) rfl
  d_Driver__ask_for_reset := c.t.d.def_ 89 (d := d_Driver__ask_for_reset) rfl
  d_Driver__take_ready := c.t.d.def_ 90 (d := d_Driver__take_ready) rfl
  d_Driver__break := c.t.d.def_ 91 (d := d_Driver__break) rfl
  d_Driver__take_journal := c.t.d.def_ 92 (d := d_Driver__take_journal) rfl
  d_is_contents := c.t.d.def_ 93 (d := d_is_contents) rfl
  d_is_request := c.t.d.def_ 94 (d := d_is_request) rfl
  d_are_requests := c.t.d.def_ 95 (d := d_are_requests) rfl
  d_names_device := c.t.d.def_ 96 (d := d_names_device) rfl
  d_World___init__ := c.t.d.def_ 97 (d := d_World___init__) rfl
  d_World_play := c.t.d.def_ 98 (d := d_World_play) rfl
  d_World__play_act := c.t.d.def_ 99 (d := d_World__play_act) rfl
  d_World__play_device := c.t.d.def_ 100 (d := d_World__play_device) rfl
  d_World__play_guard := c.t.d.def_ 101 (d := d_World__play_guard) rfl
  d_World__play_lie := c.t.d.def_ 102 (d := d_World__play_lie) rfl
  d__law_next := c.t.d.def_ 103 (d := d__law_next) rfl
  d__law_requests := c.t.d.def_ 104 (d := d__law_requests) rfl
  d__law_sending := c.t.d.def_ 105 (d := d__law_sending) rfl
  d__law_sent := c.t.d.def_ 106 (d := d__law_sent) rfl
  d__law_due := c.t.d.def_ 107 (d := d__law_due) rfl
  d_law := c.t.d.def_ 108 (d := d_law) rfl
def loose : List Str := (["_wall", "is_integer", "is_number", "is_value", "DEVICES", "PAGES", "FRAMES", "CELLS", "RIGHTS", "is_word", "Guard", "RingError", "NotValid", "BLOCKS", "RING_FRAMES", "REGISTERS", "FORMS", "frame_cell", "doorbell", "reset", "ready", "interrupt", "table_word", "acknowledge", "first_cells", "is_tuple_of_values", "fits", "is_actor", "has_form", "stands_in"] : List Str) ++ (["is_register", "is_table_word", "may_reach", "is_allowed", "Memory", "SLOTS", "TAGS", "SUBMISSIONS", "COMPLETIONS", "FIRST_BUFFER", "KINDS", "DONE", "PHASES", "buffer_page", "slot_of", "phase_of", "is_tag", "is_order", "is_entry_number", "has_phase", "descriptor", "completion", "is_new_descriptor", "is_completion", "is_new_completion", "MOST_JOBS", "WAYS", "is_refused", "Job", "Device"] : List Str) ++ (["RING_WORDS", "ring_cell", "lend_rings", "fill_frame", "read_frame", "hand_over", "take_back", "renew_rings", "Errand", "Clients", "POOL", "MOST_UNDER_WAY", "MOST_ACCESSES", "MOST_READINGS", "MOST_PATIENCE", "WAITING", "ZEROS", "PHASE", "JOURNAL", "ORDER", "Sending", "Driver", "is_contents", "is_request", "OMISSIONS", "LIES", "are_requests", "names_device", "is_lie", "World"] : List Str) ++ (["_law_next", "_law_requests", "_law_sending", "_law_sent", "_law_due"] : List Str)
abbrev lawAt : Nat := 107
end Rb
/-! The top's run: the objects that are looked at are named by their addresses, which is quicker than to search them. -/
namespace Rb
open PySem PySem.Spec PyProof.Rows L2
def obsA (as : List Addr) (fa : List He.Fa) (fn : List He.DefD) (ts : List He.Tab) (ex : List Ex) (g : Addr → Option Obj) : AlR := (He.obsT fa fn ts (He.frG g as), ex.all fun f => f.ok (He.frG g as))
def hookA (as : List Addr) (fa : List He.Fa) (fn : List He.DefD) (ts : List He.Tab) (ex : List Ex) : PySem.W.Hook where
  α := AlR
  obs := fun s => obsA as fa fn ts ex s.heap.get?
  val := fun w => (He.valT fn ts w, true)
  says := fun w h => ∃ K : PySem.W.Frag, K.In h ∧ SaysR fa fn ts ex w K
  of := fun _ _ e => ⟨_, He.frG_in, congrArg (fun z : AlR => z.1) e, congrArg (fun z : AlR => z.2) e⟩
  keeps := fun _ _ _ ⟨K, hK, c⟩ k => ⟨K, PySem.W.Frag.In.keeps hK k, c⟩
theorem obsA_eq {as : List Addr} {fa : List He.Fa} {fn : List He.DefD} {ts : List He.Tab} {ex : List Ex} {g : Addr → Option Obj} {s : Shared} (h : ∀ a, g a = s.heap.get? a) : obsA as fa fn ts ex g = (hookA as fa fn ts ex).obs s := by
  have e : g = s.heap.get? := funext h
  rw [e]
  rfl
def looked : List Addr := [3, 2, 6, 4, 21, 28, 35, 42, 43, 50, 100, 121, 141, 144, 181, 188, 195, 202, 209, 216, 223, 230, 237, 244, 251, 256, 263, 270, 277, 284, 291, 374, 379, 386, 393, 400, 407, 414, 421, 428,
  435, 442, 449, 456, 463, 470, 508, 576, 583, 590, 595, 600, 605, 612, 617, 624, 641, 705, 710, 734, 968, 977, 984, 985, 990, 997, 1004, 1070, 1081, 1086, 1093, 1100, 1105, 1110, 0, 20, 27, 34, 41, 49,
  99, 120, 140, 147, 150, 153, 156, 159, 162, 165, 168, 171, 174, 180, 187, 194, 201, 208, 215, 222, 229, 236, 243, 250, 255, 262, 269, 276, 283, 290, 373, 385, 392, 399, 406, 413, 420, 427, 434, 441,
  448, 455, 462, 469, 507, 575, 581, 582, 589, 594, 599, 604, 611, 616, 623, 640, 704, 733, 967, 976, 983, 989, 996, 1003, 1069, 1080, 1085, 1092, 1099, 1104, 1109, 15, 16, 17, 18, 19, 22, 23, 24, 25,
  26, 29, 30, 31, 32, 33, 36, 37, 38, 39, 40, 44, 45, 46, 47, 48, 64, 71, 78, 85, 90, 97, 98, 101, 102, 118, 119, 122, 138, 139, 145, 146, 148, 149, 151, 152, 154, 155, 157, 158,
  160, 161, 163, 164, 166, 167, 169, 170, 172, 173, 175, 176, 177, 178, 179, 182, 183, 184, 185, 186, 189, 190, 191, 192, 193, 196, 197, 198, 199, 200, 203, 204, 205, 206, 207, 210, 211, 212, 213, 214,
  217, 218, 219, 220, 221, 224, 225, 226, 227, 228, 231, 232, 233, 234, 235, 238, 239, 240, 241, 242, 245, 246, 247, 248, 249, 252, 253, 254, 257, 258, 259, 260, 261, 264, 265, 266, 267, 268, 271, 272,
  273, 274, 275, 278, 279, 280, 281, 282, 285, 286, 287, 288, 289, 303, 310, 317, 324, 331, 338, 343, 350, 357, 364, 371, 372, 375, 376, 380, 381, 382, 383, 384, 387, 388, 389, 390, 391, 394, 395, 396,
  397, 398, 401, 402, 403, 404, 405, 408, 409, 410, 411, 412, 415, 416, 417, 418, 419, 422, 423, 424, 425, 426, 429, 430, 431, 432, 433, 436, 437, 438, 439, 440, 443, 444, 445, 446, 447, 450, 451, 452,
  453, 454, 457, 458, 459, 460, 461, 464, 465, 466, 467, 468, 484, 491, 498, 505, 506, 509, 510, 526, 533, 538, 545, 552, 559, 566, 573, 574, 577, 578, 584, 585, 586, 587, 588, 591, 592, 593, 596, 597,
  598, 601, 602, 603, 606, 607, 608, 609, 610, 613, 614, 615, 618, 619, 620, 621, 622, 638, 639, 642, 643, 657, 664, 671, 678, 685, 692, 697, 702, 703, 706, 707, 724, 731, 732, 735, 736, 753, 760, 767,
  772, 779, 786, 791, 798, 805, 812, 817, 822, 827, 834, 841, 848, 855, 862, 869, 876, 883, 890, 897, 904, 911, 918, 925, 930, 937, 944, 951, 958, 965, 966, 969, 970, 973, 974, 975, 978, 979, 980, 981,
  982, 986, 987, 988, 991, 992, 993, 994, 995, 998, 999, 1000, 1001, 1002, 1017, 1022, 1029, 1036, 1041, 1046, 1053, 1060, 1067, 1068, 1071, 1072, 1075, 1076, 1077, 1078, 1079, 1082, 1083, 1084, 1087, 1088, 1089, 1090, 1091, 1094,
  1095, 1096, 1097, 1098, 1101, 1102, 1103, 1106, 1107, 1108, 63, 70, 77, 84, 89, 96, 117, 137, 302, 309, 316, 323, 330, 337, 342, 349, 356, 363, 370, 483, 490, 497, 504, 525, 532, 537, 544, 551, 558, 565,
  572, 637, 656, 663, 670, 677, 684, 691, 696, 701, 723, 730, 752, 746, 759, 766, 771, 778, 785, 790, 797, 804, 811, 816, 821, 826, 833, 840, 847, 854, 861, 868, 875, 882, 889, 896, 903, 910, 917, 924,
  929, 936, 943, 950, 957, 964, 1016, 1012, 1021, 1028, 1035, 1040, 1045, 1052, 1059, 1066]
abbrev R : PySem.W.OpenRow := PySem.W.OpenLaw.row PySem.Challenge.rw_ringbound_k18_drivers_step_by_step
abbrev hk : PySem.W.Hook := hookA looked fa fn ts exs
def ob (s : PySem.W.SharedT) : AlR := obsA looked fa fn ts exs (HandSHeadRun.getT s)
theorem ob_eq (s : PySem.W.SharedT) : ob s = hk.obs s.abs := obsA_eq (HandSHeadRun.getT_eq s)
/-! The end of the top's run, looked at in three pieces: each is a run of its own, for the sake of the room. -/
noncomputable abbrev endR (w : World) (os : OsState) : Option PySem.W.SharedT := HandSHeadRun.endF (HandSHeadRun.stepQ (HandSHeadRun.denQ HandSHeadRun.tabQ) R.prog w) 8000 R.prog w os
abbrev fragR (s : PySem.W.SharedT) : PySem.W.Frag := He.frG (HandSHeadRun.getT s) looked
noncomputable abbrev lookR (w : World) (s : PySem.W.SharedT) : Bool := HandSHeadRun.looksF R.prog (PySem.W.boot_heap w.params) s.abs
noncomputable abbrev seenR (s : PySem.W.SharedT) := HandSHeadRun.seenQ (PySem.W.view R.prog [lawAt]) loose (importedModules R.prog.main.body) (fun s => PySem.W.xlAt (PySem.W.view R.prog [lawAt]) [] s && PySem.W.recOk R.toRowW.records s) s.abs
def RunA (w : World) : Prop := ∀ os : OsState, (endR w os).map (fun s => (lookR w s, seenR s, ts.map (fun t => He.dicW (fragR s) (t.1 (fragR s))), exs.all fun f => f.ok (fragR s))) = some (true, PySem.W.openGood (PySem.W.view R.prog [lawAt]) loose, ts.map (fun t => some (He.keysIn w.params t.2)), true)
def RunB (w : World) : Prop := ∀ os : OsState, (endR w os).map (fun s => fa.all fun f => f.ok (fragR s)) = some true
def RunC (w : World) : Prop := ∀ os : OsState, (endR w os).map (fun s => (fn.all fun d => d.ok (fragR s), fn.map fun d => He.fnW (fragR s) d.at_)) = some (true, fn.map He.DefD.val)
theorem runA0 (w : World) : RunA (w.withFollow "special-get-raises" false) := by
  intro os
  kernel_rfl
theorem runA1 (w : World) : RunA (w.withFollow "special-get-raises" true) := by
  intro os
  kernel_rfl
theorem runB0 (w : World) : RunB (w.withFollow "special-get-raises" false) := by
  intro os
  kernel_rfl
theorem runB1 (w : World) : RunB (w.withFollow "special-get-raises" true) := by
  intro os
  kernel_rfl
theorem runC0 (w : World) : RunC (w.withFollow "special-get-raises" false) := by
  intro os
  kernel_rfl
theorem runC1 (w : World) : RunC (w.withFollow "special-get-raises" true) := by
  intro os
  kernel_rfl
theorem run_of {w : World} (a : RunA w) (b : RunB w) (c : RunC w) : HandSHeadRun.RunEq R (PySem.W.view R.prog [lawAt]) hk ob 8000 loose w := by
  intro os
  have ha := a os
  have hb := b os
  have hc := c os
  obtain ⟨s, hs, ea⟩ := Option.map_eq_some_iff.mp ha
  rw [hs] at hb hc
  have eb : (fa.all fun f => f.ok (fragR s)) = true := Option.some.inj hb
  have ec := Option.some.inj hc
  have ec1 : (fn.all fun d => d.ok (fragR s)) = true := congrArg Prod.fst ec
  have ec2 : (fn.map fun d => He.fnW (fragR s) d.at_) = fn.map He.DefD.val := congrArg Prod.snd ec
  have ea1 := congrArg Prod.fst ea
  have ea2 := congrArg (fun z => z.2.1) ea
  have ea3 := congrArg (fun z => z.2.2.1) ea
  have ea4 := congrArg (fun z => z.2.2.2) ea
  show (endR w os).map _ = _
  rw [hs]
  show some (lookR w s, seenR s, (((((fa.all fun f => f.ok (fragR s)) && fn.all fun d => d.ok (fragR s)), fn.map fun d => He.fnW (fragR s) d.at_), ts.map fun t => He.dicW (fragR s) (t.1 (fragR s))), exs.all fun f => f.ok (fragR s))) = some (true, PySem.W.openGood (PySem.W.view R.prog [lawAt]) loose, (((true, fn.map He.DefD.val), ts.map fun t => some (He.keysIn w.params t.2)), true))
  rw [eb, ec1, ec2]
  exact congrArg some (Prod.ext ea1 (Prod.ext ea2 (Prod.ext (Prod.ext rfl ea3) ea4)))
theorem run0 (w : World) : HandSHeadRun.RunEq R (PySem.W.view R.prog [lawAt]) hk ob 8000 loose (w.withFollow "special-get-raises" false) := run_of (runA0 w) (runB0 w) (runC0 w)
theorem run1 (w : World) : HandSHeadRun.RunEq R (PySem.W.view R.prog [lawAt]) hk ob 8000 loose (w.withFollow "special-get-raises" true) := run_of (runA1 w) (runB1 w) (runC1 w)
theorem run (w : World) : HandSHeadRun.RunEq R (PySem.W.view R.prog [lawAt]) hk ob 8000 loose w := PySem.W.byRow2 "special-get-raises" run0 run1 w
end Rb
namespace Rb
open PySem PySem.Spec PyProof.Rows L2
section
variable {P : Program} {w : World} {K : PySem.W.Frag} {mg : Str → Option Value} {base : Heap}
def spVeI (K : PySem.W.Frag) : Sp := fun vs H Q _ => ∃ (a C : Addr), vs = [.ref a] ∧ OexC K C ∧ H a = some (exo a C none) ∧ Q .non H
theorem ok_RingError_init (T : Top K mg) : FnC P w K mg base CX0 1 (He.ma K (He.ga K "RingError") "__init__") (spVeI K) := by
  refine fnc0 T.d_RingError___init__ sc_RingError___init__ (fun _ _ _ _ _ _ us hl => match us, hl with | [_], _ => rfl) (fun vs H Q E h => ?_) (fun cdv A outer s H vs Q E hr h => ?_)
  · obtain ⟨a, C, rfl, _⟩ := h
    rfl
  · obtain ⟨a, C, rfl, o, e, k⟩ := h
    refine ⟨_, (pss_one (ps_expr (pe_veinit (by rfl) T.b_ValueError T.vei (pa_cons (pv 0) pa_nil)))), ?_⟩
    exact ⟨_, rfl, a, C, [], rfl, Nat.zero_le _, o, e, k⟩
theorem ok_NotValid_init (T : Top K mg) : FnC P w K mg base CX0 2 (He.ma K (He.ga K "NotValid") "__init__") (spVeI K) := by
  have G_RingError___init__ := ok_RingError_init (P := P) (w := w) (base := base) T
  refine fnc0 T.d_NotValid___init__ sc_NotValid___init__ (fun _ _ _ _ _ _ us hl => match us, hl with | [_], _ => rfl) (fun vs H Q E h => ?_) (fun cdv A outer s H vs Q E hr h => ?_)
  · obtain ⟨a, C, rfl, _⟩ := h
    rfl
  · obtain ⟨a, C, rfl, o, e, k⟩ := h
    refine ⟨_, (pss_one (ps_expr (pe_cls T.cf_RingError___init__ G_RingError___init__ hr (by decide) (by rfl) T.g_RingError pass0 (pa_cons (pv 0) pa_nil)))), ?_⟩
    exact ⟨_, rfl, a, C, rfl, o, e, k⟩
def spIsInt (K : PySem.W.Frag) : Sp := fun vs H Q _ => ∃ (v : V) (N : String), vs = [v] ∧ TyB K H v N ∧ Q (.bl (decide (N = "int"))) H
theorem ok_is_integer (T : Top K mg) : FnC P w K mg base CX0 1 (He.ga K "is_integer") (spIsInt K) := by
  refine fnc0 T.d_is_integer sc_is_integer (fun _ _ _ _ _ _ us hl => match us, hl with | [_], _ => rfl) (fun vs H Q E h => ?_) (fun cdv A outer s H vs Q E hr h => ?_)
  · obtain ⟨v, N, rfl, _⟩ := h
    rfl
  · obtain ⟨v, N, rfl, hN, k⟩ := h
    refine ⟨_, (pss_one (ps_ret (pe_cmpR op_isTyB (pe_callTy call_type1 (by rfl) T.b_type (by decide +kernel) (pa_cons (pv 0) pa_nil)) (pe_bltn (v := .ty "int") (by rfl) T.b_int (by decide +kernel) rfl) (nomark _)))), ?_⟩
    exact ⟨_, rfl, _, N, rfl, hN, _, _, rfl, rfl, k⟩
def isNum : V → Int → Bool
  | .int i, l => decide (0 ≤ i) && decide (i < l)
  | _, _ => false
def spIsNum (K : PySem.W.Frag) : Sp := fun vs H Q _ => ∃ (v : V) (N : String) (l : Int), vs = [v, .int l] ∧ TyB K H v N ∧ Q (.bl (isNum v l)) H
theorem ok_is_number (T : Top K mg) : FnC P w K mg base CX0 2 (He.ga K "is_number") (spIsNum K) := by
  have G_is_integer := ok_is_integer (P := P) (w := w) (base := base) T
  refine fnc0 T.d_is_number sc_is_number (fun _ _ _ _ _ _ us hl => match us, hl with | [_, _], _ => rfl) (fun vs H Q E h => ?_) (fun cdv A outer s H vs Q E hr h => ?_)
  · obtain ⟨v, N, l, rfl, _⟩ := h
    rfl
  · obtain ⟨v, N, l, rfl, hN, k⟩ := h
    refine ⟨_, (pss_one (ps_ret (pe_and (pe_f G_is_integer hr (by decide) (by rfl) T.g_is_integer pass0 (pa_cons (pv 0) pa_nil)) (pe_one (pe_chain op_le op_lt pe_int (pv 0) (pv 1)))))), ?_⟩
    refine ⟨_, rfl, _, N, rfl, hN, _, rfl, ?_⟩
    cases hN with
    | int i =>
      refine ⟨_, rfl, _, _, rfl, rfl, _, rfl, ?_⟩
      show if decide ((0 : Int) ≤ i) = true then _ else _
      by_cases c : (0 : Int) ≤ i
      · rw [decide_eq_true c]
        refine ⟨_, rfl, _, _, rfl, rfl, ?_⟩
        have e : isNum (.int i) l = decide (i < l) := by
          show (decide (0 ≤ i) && decide (i < l)) = _
          rw [decide_eq_true c, Bool.true_and]
        rw [e] at k
        exact k
      · rw [decide_eq_false c]
        have e : isNum (.int i) l = false := by
          show (decide (0 ≤ i) && decide (i < l)) = _
          rw [decide_eq_false c, Bool.false_and]
        rw [e] at k
        exact k
    | _ => exact k
end
end Rb
namespace Rb
open PySem PySem.Spec PyProof.Rows L2
section
variable {P : Program} {w : World} {K : PySem.W.Frag} {mg : Str → Option Value} {base : Heap}
/-! ### the numbers of the cells -/
def fcell (d f i : Int) : Int := (d * 6 + f) * 4 + i
def sp3 (g : Int → Int → Int → Int) : Sp := fun vs H Q _ => ∃ a b c : Int, vs = [.int a, .int b, .int c] ∧ Q (.int (g a b c)) H
def sp2 (g : Int → Int → Int) : Sp := fun vs H Q _ => ∃ a b : Int, vs = [.int a, .int b] ∧ Q (.int (g a b)) H
def sp1 (g : Int → Int) : Sp := fun vs H Q _ => ∃ a : Int, vs = [.int a] ∧ Q (.int (g a)) H
theorem ok_frame_cell (T : Top K mg) : FnC P w K mg base CX0 1 (He.ga K "frame_cell") (sp3 fcell) := by
  refine fnc0 T.d_frame_cell sc_frame_cell (fun _ _ _ _ _ _ us hl => match us, hl with | [_, _, _], _ => rfl) (fun vs H Q E h => ?_) (fun cdv A outer s H vs Q E hr h => ?_)
  · obtain ⟨a, b, c, rfl, _⟩ := h
    rfl
  · obtain ⟨a, b, c, rfl, k⟩ := h
    refine ⟨_, (pss_one (ps_ret (pe_op op_add (pe_op op_mul (pe_op op_add (pe_op op_mul (pv 0) (pe_gc (by rfl) T.c_FRAMES)) (pv 1)) (pe_gc (by rfl) T.c_CELLS)) (pv 2)))), ?_⟩
    exact ⟨_, rfl, _, _, rfl, rfl, .inr ⟨by decide, by decide⟩, _, rfl, _, _, rfl, rfl, _, _, rfl, rfl, .inr ⟨by decide, by decide⟩, _, rfl, _, _, rfl, rfl, k⟩
def dbell (d : Int) : Int := 48 + d * 4
theorem ok_doorbell (T : Top K mg) : FnC P w K mg base CX0 2 (He.ga K "doorbell") (sp1 dbell) := by
  have G_frame_cell := ok_frame_cell (P := P) (w := w) (base := base) T
  refine fnc0 T.d_doorbell sc_doorbell (fun _ _ _ _ _ _ us hl => match us, hl with | [_], _ => rfl) (fun vs H Q E h => ?_) (fun cdv A outer s H vs Q E hr h => ?_)
  · obtain ⟨a, rfl, _⟩ := h
    rfl
  · obtain ⟨a, rfl, k⟩ := h
    refine ⟨_, (pss_one (ps_ret (pe_op op_add (pe_f G_frame_cell hr (by decide) (by rfl) T.g_frame_cell pass0 (pa_cons (pe_gc (by rfl) T.c_DEVICES) (pa_cons pe_int (pa_cons pe_int pa_nil)))) (pe_op op_mul (pv 0) (pe_gc (by rfl) T.c_REGISTERS))))), ?_⟩
    exact ⟨_, _, _, rfl, _, rfl, _, _, rfl, rfl, .inr ⟨by decide, by decide⟩, _, _, rfl, rfl, k⟩
theorem ok_reset (T : Top K mg) : FnC P w K mg base CX0 3 (He.ga K "reset") (sp1 fun d => dbell d + 1) := by
  have G_doorbell := ok_doorbell (P := P) (w := w) (base := base) T
  refine fnc0 T.d_reset sc_reset (fun _ _ _ _ _ _ us hl => match us, hl with | [_], _ => rfl) (fun vs H Q E h => ?_) (fun cdv A outer s H vs Q E hr h => ?_)
  · obtain ⟨a, rfl, _⟩ := h
    rfl
  · obtain ⟨a, rfl, k⟩ := h
    refine ⟨_, (pss_one (ps_ret (pe_op op_add (pe_f G_doorbell hr (by decide) (by rfl) T.g_doorbell pass0 (pa_cons (pv 0) pa_nil)) pe_int))), ?_⟩
    exact ⟨_, rfl, _, rfl, _, _, rfl, rfl, k⟩
theorem ok_ready (T : Top K mg) : FnC P w K mg base CX0 3 (He.ga K "ready") (sp1 fun d => dbell d + 2) := by
  have G_doorbell := ok_doorbell (P := P) (w := w) (base := base) T
  refine fnc0 T.d_ready sc_ready (fun _ _ _ _ _ _ us hl => match us, hl with | [_], _ => rfl) (fun vs H Q E h => ?_) (fun cdv A outer s H vs Q E hr h => ?_)
  · obtain ⟨a, rfl, _⟩ := h
    rfl
  · obtain ⟨a, rfl, k⟩ := h
    refine ⟨_, (pss_one (ps_ret (pe_op op_add (pe_f G_doorbell hr (by decide) (by rfl) T.g_doorbell pass0 (pa_cons (pv 0) pa_nil)) pe_int))), ?_⟩
    exact ⟨_, rfl, _, rfl, _, _, rfl, rfl, k⟩
theorem ok_interrupt (T : Top K mg) : FnC P w K mg base CX0 3 (He.ga K "interrupt") (sp1 fun d => dbell d + 3) := by
  have G_doorbell := ok_doorbell (P := P) (w := w) (base := base) T
  refine fnc0 T.d_interrupt sc_interrupt (fun _ _ _ _ _ _ us hl => match us, hl with | [_], _ => rfl) (fun vs H Q E h => ?_) (fun cdv A outer s H vs Q E hr h => ?_)
  · obtain ⟨a, rfl, _⟩ := h
    rfl
  · obtain ⟨a, rfl, k⟩ := h
    refine ⟨_, (pss_one (ps_ret (pe_op op_add (pe_f G_doorbell hr (by decide) (by rfl) T.g_doorbell pass0 (pa_cons (pv 0) pa_nil)) pe_int))), ?_⟩
    exact ⟨_, rfl, _, rfl, _, _, rfl, rfl, k⟩
def tword (d p : Int) : Int := 56 + d * 6 + p
theorem ok_table_word (T : Top K mg) : FnC P w K mg base CX0 3 (He.ga K "table_word") (sp2 tword) := by
  have G_doorbell := ok_doorbell (P := P) (w := w) (base := base) T
  refine fnc0 T.d_table_word sc_table_word (fun _ _ _ _ _ _ us hl => match us, hl with | [_, _], _ => rfl) (fun vs H Q E h => ?_) (fun cdv A outer s H vs Q E hr h => ?_)
  · obtain ⟨a, b, rfl, _⟩ := h
    rfl
  · obtain ⟨a, b, rfl, k⟩ := h
    refine ⟨_, (pss_one (ps_ret (pe_op op_add (pe_op op_add (pe_f G_doorbell hr (by decide) (by rfl) T.g_doorbell pass0 (pa_cons (pe_gc (by rfl) T.c_DEVICES) pa_nil)) (pe_op op_mul (pv 0) (pe_gc (by rfl) T.c_PAGES))) (pv 1)))), ?_⟩
    exact ⟨_, rfl, _, rfl, _, _, rfl, rfl, .inr ⟨by decide, by decide⟩, _, _, rfl, rfl, _, rfl, _, _, rfl, rfl, k⟩
def ackw (d : Int) : Int := 68 + d
theorem ok_acknowledge (T : Top K mg) : FnC P w K mg base CX0 4 (He.ga K "acknowledge") (sp1 ackw) := by
  have G_table_word := ok_table_word (P := P) (w := w) (base := base) T
  refine fnc0 T.d_acknowledge sc_acknowledge (fun _ _ _ _ _ _ us hl => match us, hl with | [_], _ => rfl) (fun vs H Q E h => ?_) (fun cdv A outer s H vs Q E hr h => ?_)
  · obtain ⟨a, rfl, _⟩ := h
    rfl
  · obtain ⟨a, rfl, k⟩ := h
    refine ⟨_, (pss_one (ps_ret (pe_op op_add (pe_f G_table_word hr (by decide) (by rfl) T.g_table_word pass0 (pa_cons (pe_gc (by rfl) T.c_DEVICES) (pa_cons pe_int pa_nil))) (pv 0)))), ?_⟩
    exact ⟨_, _, rfl, _, rfl, _, _, rfl, rfl, k⟩
end
end Rb
namespace Rb
open PySem PySem.Spec PyProof.Rows L2
/-! ### the first cells -/
def fcI (xs : List V) (d f : Int) : Nat → List V
  | 0 => xs
  | j + 1 => (fcI xs d f j).set (fcell d f (0 + (j : Int))).toNat .non
def fcF (xs : List V) (d : Int) : Nat → List V
  | 0 => xs
  | f + 1 => fcI (fcF xs d f) d (0 + (f : Int)) 4
def fcP (xs : List V) (d : Int) : Nat → List V
  | 0 => xs
  | p + 1 => (fcP xs d p).set (tword d (0 + (p : Int))).toNat .non
def fcD : Nat → List V
  | 0 => List.replicate 70 (.int 0)
  | d + 1 => fcP (fcF (fcD d) (0 + (d : Int)) 2) (0 + (d : Int)) 6
/-- the cells of a new memory -/
def cells0 : List V := fcD 2
theorem fcI_len {xs : List V} {d f : Int} : ∀ n, (fcI xs d f n).length = xs.length
  | 0 => rfl
  | n + 1 => by
    show ((fcI xs d f n).set _ _).length = _
    rw [List.length_set, fcI_len n]
theorem fcF_len {xs : List V} {d : Int} : ∀ n, (fcF xs d n).length = xs.length
  | 0 => rfl
  | n + 1 => by
    show (fcI _ _ _ 4).length = _
    rw [fcI_len, fcF_len n]
theorem fcP_len {xs : List V} {d : Int} : ∀ n, (fcP xs d n).length = xs.length
  | 0 => rfl
  | n + 1 => by
    show ((fcP xs d n).set _ _).length = _
    rw [List.length_set, fcP_len n]
theorem fcD_len : ∀ n, (fcD n).length = 70
  | 0 => List.length_replicate
  | n + 1 => by
    show (fcP _ _ 6).length = _
    rw [fcP_len, fcF_len, fcD_len n]
theorem ixN_in {n : Nat} {i : Int} (h0 : 0 ≤ i) (h1 : i < n) : ixN n i = some i.toNat := by
  unfold ixN
  rw [if_pos h0, if_pos h1]
def spFirst : Sp := fun vs H Q _ => vs = [] ∧ ∀ (p : Addr) (H' : Hp), H p = none → Same H H' → H' p = some (.lst cells0) → Q (.ref p) H'
section
variable {P : Program} {w : World} {K : PySem.W.Frag} {mg : Str → Option Value} {base : Heap}
theorem ok_first_cells (T : Top K mg) : FnC P w K mg base CX0 5 (He.ga K "first_cells") spFirst := by
  have G_frame_cell := ok_frame_cell (P := P) (w := w) (base := base) T
  have G_table_word := ok_table_word (P := P) (w := w) (base := base) T
  have G_acknowledge := ok_acknowledge (P := P) (w := w) (base := base) T
  refine fnc0 T.d_first_cells sc_first_cells (fun _ _ _ _ _ _ us hl => match us, hl with | [], _ => rfl) (fun vs H Q E h => ?_) (fun cdv A outer s H vs Q E hr h => ?_)
  · obtain ⟨rfl, _⟩ := h
    rfl
  · obtain ⟨rfl, k⟩ := h
    refine ⟨_, (pss_cons (ps_set (i := 0) sc_first_cells.nd rfl (Or.inl rfl) (pe_op op_rep (pe_lst (pa_cons pe_int pa_nil)) (pe_f G_acknowledge hr (by decide) (by rfl) T.g_acknowledge pass0 (pa_cons (pe_gc (by rfl) T.c_DEVICES) pa_nil))))
    (pss_cons (ps_for PassesOwn.never rfl (pi_range1 (by rfl) T.b_range (pa_cons (pe_gc (by rfl) T.c_DEVICES) pa_nil)) (pg_name (i := 1) sc_first_cells.nd rfl (Or.inl rfl)) (pss_cons (ps_for PassesOwn.never rfl (pi_range1 (by rfl) T.b_range (pa_cons (pe_gc (by rfl) T.c_RING_FRAMES) pa_nil)) (pg_name (i := 2) sc_first_cells.nd rfl (Or.inl rfl)) (pss_one (ps_for PassesOwn.never rfl (pi_range1 (by rfl) T.b_range (pa_cons (pe_gc (by rfl) T.c_CELLS) pa_nil)) (pg_name (i := 3) sc_first_cells.nd rfl (Or.inl rfl)) (pss_one (ps_asg pe_non (pg_sub (pv 0) (pe_f G_frame_cell hr (by decide) (by rfl) T.g_frame_cell pass0 (pa_cons (pv 1) (pa_cons (pv 2) (pa_cons (pv 3) pa_nil)))) set_list))))))
    (pss_one (ps_for PassesOwn.never rfl (pi_range1 (by rfl) T.b_range (pa_cons (pe_gc (by rfl) T.c_PAGES) pa_nil)) (pg_name (i := 4) sc_first_cells.nd rfl (Or.inl rfl)) (pss_one (ps_asg pe_non (pg_sub (pv 0) (pe_f G_table_word hr (by decide) (by rfl) T.g_table_word pass0 (pa_cons (pv 1) (pa_cons (pv 4) pa_nil))) set_list)))))))
    (pss_one (ps_ret (pv 0))))), ?_⟩
    refine ⟨by decide, fun q hq => ⟨_, rfl, q, 70, [.int 0], rfl, rfl, upd_same, by decide, by decide, by decide, fun p hp => ?_⟩⟩
    have hp0 : H p = none := by
      by_cases e : p = q
      · rw [e]
        exact hq
      · rw [upd_ne e] at hp
        exact hp
    have s0 : Same H (upd (upd H q (.lst [.int 0])) p (.lst (List.replicate (70 : Int).toNat [V.int 0]).flatten)) := fun b o e => by
      rw [upd_ne (ne_of_none e hp0), upd_ne (ne_of_none e hq)]
      exact e
    refine ⟨2, rfl, by decide, by decide, for_range (n := 2) (fun i σ H1 => ∃ x1 x2 x3 x4, σ = [some (.ref p), x1, x2, x3, x4] ∧ H1 p = some (.lst (fcD i)) ∧ Same H H1) ?_ ?_ ?_⟩
    · exact ⟨none, none, none, none, rfl, upd_same, s0⟩
    · rintro i σ H1 hi ⟨x1, x2, x3, x4, rfl, e1, s1⟩
      -- for frame in range(RING_FRAMES)
      refine ⟨2, rfl, by decide, by decide, for_range (n := 2) (fun f σ H2 => ∃ x2 x3 x4, σ = [some (.ref p), some (.int (0 + (i : Int))), x2, x3, x4] ∧ H2 p = some (.lst (fcF (fcD i) (0 + (i : Int)) f)) ∧ Same H H2) ?_ ?_ ?_⟩
      · exact ⟨x2, x3, x4, rfl, e1, s1⟩
      · rintro f σ H2 hf ⟨x2, x3, x4, rfl, e2, s2⟩
        refine ⟨4, rfl, by decide, by decide, for_range (n := 4) (fun j σ H3 => ∃ x3 x4, σ = [some (.ref p), some (.int (0 + (i : Int))), some (.int (0 + (f : Int))), x3, x4] ∧ H3 p = some (.lst (fcI (fcF (fcD i) (0 + (i : Int)) f) (0 + (i : Int)) (0 + (f : Int)) j)) ∧ Same H H3) ?_ ?_ ?_⟩
        · exact ⟨x3, x4, rfl, e2, s2⟩
        · rintro j σ H3 hj ⟨x3, x4, rfl, e3, s3⟩
          refine ⟨_, rfl, _, rfl, _, rfl, _, rfl, _, _, _, rfl, p, _, _, _, rfl, rfl, e3, ixN_in ?_ ?_, ?_⟩
          · show 0 ≤ fcell (0 + (i : Int)) (0 + (f : Int)) (0 + (j : Int))
            unfold fcell
            omega
          · rw [fcI_len, fcF_len, fcD_len]
            show fcell (0 + (i : Int)) (0 + (f : Int)) (0 + (j : Int)) < 70
            unfold fcell
            omega
          · refine ⟨_, _, rfl, upd_same, fun b o e => ?_⟩
            rw [upd_ne (ne_of_none e hp0)]
            exact s3 b o e
        · rintro σ H3 ⟨x3, x4, rfl, e3, s3⟩
          exact ⟨_, _, _, rfl, e3, s3⟩
      · rintro σ H2 ⟨x2, x3, x4, rfl, e2, s2⟩
        -- for page in range(PAGES)
        refine ⟨6, rfl, by decide, by decide, for_range (n := 6) (fun j σ H3 => ∃ x2 x3 x4, σ = [some (.ref p), some (.int (0 + (i : Int))), x2, x3, x4] ∧ H3 p = some (.lst (fcP (fcF (fcD i) (0 + (i : Int)) 2) (0 + (i : Int)) j)) ∧ Same H H3) ?_ ?_ ?_⟩
        · exact ⟨x2, x3, x4, rfl, e2, s2⟩
        · rintro j σ H3 hj ⟨x2, x3, x4, rfl, e3, s3⟩
          refine ⟨_, rfl, _, rfl, _, rfl, _, _, rfl, p, _, _, _, rfl, rfl, e3, ixN_in ?_ ?_, ?_⟩
          · show 0 ≤ tword (0 + (i : Int)) (0 + (j : Int))
            unfold tword
            omega
          · rw [fcP_len, fcF_len, fcD_len]
            show tword (0 + (i : Int)) (0 + (j : Int)) < 70
            unfold tword
            omega
          · refine ⟨_, _, _, rfl, upd_same, fun b o e => ?_⟩
            rw [upd_ne (ne_of_none e hp0)]
            exact s3 b o e
        · rintro σ H3 ⟨x2, x3, x4, rfl, e3, s3⟩
          exact ⟨_, _, _, _, rfl, e3, s3⟩
    · rintro σ H1 ⟨x1, x2, x3, x4, rfl, e1, s1⟩
      exact ⟨_, rfl, k p H1 hp0 s1 e1⟩
end
end Rb
namespace Rb
open PySem PySem.Spec PyProof.Rows L2
abbrev CG (K : PySem.W.Frag) : Addr := He.ga K "Guard"
abbrev CM (K : PySem.W.Frag) : Addr := He.ga K "Memory"
def spGuardI (C : Addr) : Sp := fun vs H Q _ => ∃ (g d : Addr), vs = [.ref g] ∧ H g = some (.ins C d []) ∧ H d = some (.own g) ∧
  ∀ (e q : Addr) (H' : Hp), H e = none → H q = none → e ≠ q → GuardAt C ⟨g, d, e, q⟩ H' ⟨[], [], 0⟩ → (∀ b o, H b = some o → b ≠ g → H' b = some o) → Q .non H'
section
variable {P : Program} {w : World} {K : PySem.W.Frag} {mg : Str → Option Value} {base : Heap}
theorem ok_Guard_init (T : Top K mg) : FnC P w K mg base CX0 1 (He.ma K (He.ga K "Guard") "__init__") (spGuardI (CG K)) := by
  refine fnc0 T.d_Guard___init__ sc_Guard___init__ (fun _ _ _ _ _ _ us hl => match us, hl with | [_], _ => rfl) (fun vs H Q E h => ?_) (fun cdv A outer s H vs Q E hr h => ?_)
  · obtain ⟨g, d, rfl, _⟩ := h
    rfl
  · obtain ⟨g, d, rfl, hg, hd, k⟩ := h
    refine ⟨_, (pss_cons (ps_fld (pv 0) pe_dnewK rfl)
    (pss_cons (ps_fld (pv 0) (pe_lst pa_nil) rfl)
    (pss_one (ps_fld (pv 0) pe_int rfl)))), ?_⟩
    intro e he
    have nge : g ≠ e := ne_of_none hg he
    have nde : d ≠ e := ne_of_none hd he
    refine ⟨_, rfl, g, CG K, d, List.zip [] [], rfl, (upd_ne nge).trans hg, T.cl_Guard, T.na_Guard__entries, (by decide), ?_⟩
    refine ⟨by decide, fun q hq => ?_⟩
    obtain ⟨nqg, hq⟩ := free_upd hq
    obtain ⟨nqe, hq⟩ := free_upd hq
    have nge' := nge.symm
    refine ⟨_, rfl, g, CG K, d, List.zip ["_entries"] [.ref e], rfl, ?_, T.cl_Guard, T.na_Guard__queue, (by show 1 < 1000; decide), ?_⟩
    · rw [upd_ne nqg.symm, upd_same, zx (by decide +kernel) rfl]
      rfl
    refine ⟨_, rfl, g, CG K, d, List.zip ["_entries", "_queue"] [.ref e, .ref q], rfl, ?_, T.cl_Guard, T.na_Guard__tickets, (by show 2 < 1000; decide), ?_⟩
    · rw [upd_same, zx (by decide +kernel) rfl]
      rfl
    refine k e q _ he hq nqe.symm ⟨?_, ?_, ?_, ?_⟩ fun b o hb nb => ?_
    · rw [upd_same, zx (by decide +kernel) rfl]
      rfl
    · show _ = some (HO.own g)
      rw [upd_ne (ne_of hd hg (by intro z; cases z)), upd_ne (ne_of hd hg (by intro z; cases z)), upd_ne (ne_of_none hd hq), upd_ne (ne_of hd hg (by intro z; cases z)), upd_ne nde]
      exact hd
    · show _ = some (HO.dK [])
      rw [upd_ne nge', upd_ne nge', upd_ne nqe.symm, upd_ne nge', upd_same]
    · show _ = some (HO.lst [])
      rw [upd_ne nqg, upd_ne nqg, upd_same]
    · rw [upd_ne nb, upd_ne nb, upd_ne (ne_of_none hb hq), upd_ne nb, upd_ne (ne_of_none hb he)]
      exact hb
end
end Rb
namespace Rb
open PySem PySem.Spec PyProof.Rows L2
def G0 : GS := ⟨[], [], 0⟩
def M0 (z : Nat → Addr) (t : Addr) : MS := ⟨0, cells0, fun d => List.replicate 8 (.ref (z d)), [.ref t, .ref t], [], fun _ => G0⟩
def spMemI (Cm Cg : Addr) : Sp := fun vs H Q _ => ∃ (m d : Addr), vs = [.ref m] ∧ H m = some (.ins Cm d []) ∧ H d = some (.own m) ∧ m ≠ d ∧
  ∀ (L : ML) (H' : Hp) (z : Nat → Addr) (t : Addr), L.m = m → L.d = d → MemAt Cm Cg L H' (M0 z t) → (∀ a ∈ L.all, a = m ∨ a = d ∨ H a = none) →
    (∀ i, i < 2 → H' (z i) = some (.tup [.int 0, .int 0, .int 0, .int 0])) → H' t = some (.tup []) → (∀ b o, H b = some o → b ≠ m → H' b = some o) → Q .non H'
theorem upd_keep {H H1 : Hp} {m : Addr} {o : HO} (k : ∀ b u, H b = some u → b ≠ m → H1 b = some u) : ∀ b u, H b = some u → b ≠ m → upd H1 m o b = some u := fun b u e n => by
  rw [upd_ne n]
  exact k b u e n
theorem new_keep {H H1 : Hp} {m p : Addr} {o : HO} (k : ∀ b u, H b = some u → b ≠ m → H1 b = some u) (hp : H1 p = none) : ∀ b u, H b = some u → b ≠ m → upd H1 p o b = some u := fun b u e n => by
  rw [upd_ne (ne_of_none (k b u e n) hp)]
  exact k b u e n
section
variable {P : Program} {w : World} {K : PySem.W.Frag} {mg : Str → Option Value} {base : Heap}
/-- [Guard() for device in range(2)], by what it leaves -/
theorem guards_comp {Cg : Addr} {H : Hp} {D m d : Addr} {σ : L2.St} {Qd : Hp → Prop} (hw : wipe (wipe σ [1]) [1] = wipe σ [1]) (hw2 : ∀ x, wipe ((wipe σ [1]).set 1 x) [1] = wipe σ [1]) (t0 : Trk H [m, d]) (hD : H D = none)
    (hd : ∀ (H1 : Hp) (gs : List GL), gs.length = 2 → H1 D = some (.lst (gs.map fun L => V.ref L.g)) → (∀ L ∈ gs, GuardAt Cg L H1 G0) → Trk H1 ([m, d, D] ++ gs.flatMap GL.all) → (∀ a ∈ gs.flatMap GL.all, H a = none) → Same H H1 → Qd H1) :
    ∃ W : Nat → Nat → Hp → Prop, (∃ n, W 0 n (upd H D (.lst []))) ∧ ∀ i n H', W i n H' →
      ((Itr 0 2).stop i H' ∧ Qd H') ∨ ((Itr 0 2).go i H' ∧ ∃ Nx : Hp → Prop, (∀ H2, Nx H2 → ∃ n', n' < n ∧ W (i + 1) n' H2) ∧ ∀ x H2, (Itr 0 2).yld i H' x H2 → gName 1 x (wipe σ [1]) H2 fun σ2 H3 => wipe σ2 [1] = wipe σ [1] ∧ tYes σ2 H3 fun b H4 =>
        if b = true then tMake Cg (spGuardI Cg) [] E0 tNil σ2 H4 fun y H5 => ∃ acc, H5 D = some (.lst acc) ∧ acc.length < sizeLine ∧ Nx (upd H5 D (.lst (acc ++ [y]))) else Nx H4) := by
  refine lc_range (n := 2) (fun i H1 => ∃ gs : List GL, gs.length = i ∧ H1 D = some (.lst (gs.map fun L => V.ref L.g)) ∧ (∀ L ∈ gs, GuardAt Cg L H1 G0) ∧ Trk H1 ([m, d, D] ++ gs.flatMap GL.all) ∧ (∀ a ∈ gs.flatMap GL.all, H a = none) ∧ Same H H1) ?_ ?_ ?_
  · refine ⟨[], rfl, upd_same, fun L hL => (nomatch hL), ?_, fun a ha => (nomatch ha), Same.new (Same.refl H) hD⟩
    exact t0.new hD
  · rintro i H1 hi ⟨gs, hl, hL, hg, tk, hf, sm⟩
    refine ⟨hw2 _, ?_⟩
    intro x dx hx hdx nex
    have g0 : upd (upd H1 dx (.own x)) x (.ins Cg dx []) x = some (.ins Cg dx []) := upd_same
    have g1 : upd (upd H1 dx (.own x)) x (.ins Cg dx []) dx = some (.own x) := by rw [upd_ne nex, upd_same]
    refine ⟨x, dx, rfl, g0, g1, fun e q H3 he hq neq GA kp => ⟨rfl, ?_⟩⟩
    obtain ⟨nex', he⟩ := free_upd he
    obtain ⟨ned, he⟩ := free_upd he
    obtain ⟨nqx, hq⟩ := free_upd hq
    obtain ⟨nqd, hq⟩ := free_upd hq
    have k13 : ∀ b o, H1 b = some o → H3 b = some o := fun b o hb => by
      refine kp b o ?_ (ne_of_none hb hx)
      rw [upd_ne (ne_of_none hb hx), upd_ne (ne_of_none hb hdx)]
      exact hb
    have hD3 := k13 _ _ hL
    have tk3 : Trk H3 ([m, d, D] ++ gs.flatMap GL.all ++ [dx, x, e, q]) := by
      refine tk.adds ?_ ?_ ?_ fun a ha hb => (tk.same k13).tr a ha
      · simp [nex, ned.symm, nqd.symm, nex'.symm, nqx.symm, neq]
      · intro p hp
        simp at hp
        rcases hp with rfl | rfl | rfl | rfl <;> assumption
      · intro p hp
        simp at hp
        rcases hp with rfl | rfl | rfl | rfl
        · exact some_ne GA.od
        · exact some_ne GA.og
        · exact some_ne GA.oe
        · exact some_ne GA.oq
    have nD : ∀ a ∈ gs.flatMap GL.all ++ [dx, x, e, q], a ≠ D := fun a ha z => by
      have n := tk3.nd
      rw [List.append_assoc, List.nodup_append] at n
      exact n.2.2 D (by simp) a ha z.symm
    refine ⟨_, hD3, ?_, gs ++ [⟨x, dx, e, q⟩], by simp [hl], ?_, fun L hL' => ?_, ?_, fun a ha => ?_, ?_⟩
    · rw [List.length_map, hl]
      exact Nat.lt_trans hi (by decide)
    · rw [upd_same, List.map_append]
      rfl
    · rcases List.mem_append.mp hL' with z | z
      · refine (hg L z).keep fun b hb => ?_
        have hm : b ∈ gs.flatMap GL.all := List.mem_flatMap.mpr ⟨L, z, hb⟩
        rw [upd_ne (nD b (List.mem_append_left _ hm))]
        have := tk.tr b (List.mem_append_right _ hm)
        cases q2 : H1 b with
        | none => exact absurd q2 this
        | some o => exact k13 b o q2
      · rw [List.mem_singleton] at z
        subst z
        refine GA.keep fun b hb => ?_
        rw [upd_ne (nD b (List.mem_append_right _ hb))]
    · rw [List.flatMap_append]
      exact (by simpa [GL.all] using tk3.upd)
    · rw [List.flatMap_append] at ha
      rcases List.mem_append.mp ha with z | z
      · exact hf a z
      · simp [GL.all] at z
        rcases z with rfl | rfl | rfl | rfl
        · exact sm.free hdx
        · exact sm.free hx
        · exact sm.free he
        · exact sm.free hq
    · exact fun b o hb => by
        rw [upd_ne (ne_of_none hb hD)]
        exact k13 b o (sm b o hb)
  · rintro H1 ⟨gs, hl, hL, hg, tk, hf, sm⟩
    exact hd H1 gs hl hL hg tk hf sm
end
end Rb
namespace Rb
open PySem PySem.Spec PyProof.Rows L2
def zero4 : List V := [.int 0, .int 0, .int 0, .int 0]
section
variable {P : Program} {w : World} {K : PySem.W.Frag} {mg : Str → Option Value} {base : Heap}
theorem blocks_comp {H : Hp} {D : Addr} {S : List Addr} {σ : L2.St} {Qd : Hp → Prop} (hw2 : ∀ x, wipe ((wipe σ [1]).set 1 x) [1] = wipe σ [1]) (t0 : Trk H S) (hD : H D = none)
    (hd : ∀ (H1 : Hp) (bs : List (Addr × Addr)), bs.length = 2 → H1 D = some (.lst (bs.map fun x => V.ref x.1)) → (∀ x ∈ bs, H1 x.1 = some (.lst (List.replicate 8 (.ref x.2))) ∧ H1 x.2 = some (.tup zero4)) →
      Trk H1 (S ++ [D] ++ bs.map (·.1)) → (∀ x ∈ bs, H x.1 = none) → Same H H1 → Qd H1) :
    ∃ W : Nat → Nat → Hp → Prop, (∃ n, W 0 n (upd H D (.lst []))) ∧ ∀ i n H', W i n H' →
      ((Itr 0 2).stop i H' ∧ Qd H') ∨ ((Itr 0 2).go i H' ∧ ∃ Nx : Hp → Prop, (∀ H2, Nx H2 → ∃ n', n' < n ∧ W (i + 1) n' H2) ∧ ∀ x H2, (Itr 0 2).yld i H' x H2 → gName 1 x (wipe σ [1]) H2 fun σ2 H3 => wipe σ2 [1] = wipe σ [1] ∧ tYes σ2 H3 fun b H4 =>
        if b = true then tOp rRep (tLst (tCons (tOp (rRepT K) (tTup (tCons (tC (.int 0)) tNil)) (tC (.int 4))) tNil)) (tC (.int 8)) σ2 H4 fun y H5 => ∃ acc, H5 D = some (.lst acc) ∧ acc.length < sizeLine ∧ Nx (upd H5 D (.lst (acc ++ [y]))) else Nx H4) := by
  refine lc_range (n := 2) (fun i H1 => ∃ bs : List (Addr × Addr), bs.length = i ∧ H1 D = some (.lst (bs.map fun x => V.ref x.1)) ∧ (∀ x ∈ bs, H1 x.1 = some (.lst (List.replicate 8 (.ref x.2))) ∧ H1 x.2 = some (.tup zero4)) ∧
    Trk H1 (S ++ [D] ++ bs.map (·.1)) ∧ (∀ x ∈ bs, H x.1 = none) ∧ Same H H1) ?_ ?_ ?_
  · exact ⟨[], rfl, upd_same, fun L hL => (nomatch hL), by simpa using t0.new hD, fun a ha => (nomatch ha), Same.new (Same.refl H) hD⟩
  · rintro i H1 hi ⟨bs, hl, hL, hb, tk, hf, sm⟩
    refine ⟨hw2 _, ?_⟩
    refine ⟨by decide, fun p1 h1 => ⟨p1, 4, [.int 0], rfl, rfl, SqT.of upd_same, by simp, by decide, by decide, by decide, fun p2 h2 => ⟨(by show 1 ≤ sizeLine; decide), fun p3 h3 => ⟨p3, 8, [.ref p2], rfl, rfl, upd_same, by decide, by decide, (by show 1 * 8 ≤ sizeLine; decide), fun p4 h4 => ?_⟩⟩⟩⟩
    have s1 : Same H1 (upd H1 p1 (.tup [.int 0])) := Same.new (Same.refl H1) h1
    have s2 := Same.new (o := HO.tup (List.replicate (4 : Int).toNat [V.int 0]).flatten) s1 (s1.free h2)
    have s3 := Same.new (o := HO.lst [.ref p2]) s2 (s2.free h3)
    have s4 := Same.new (o := HO.lst (List.replicate (8 : Int).toNat [V.ref p2]).flatten) s3 (s3.free h4)
    have hD4 := s4 _ _ hL
    have f4 : H1 p4 = none := s3.free h4
    have tk4 := (tk.same s3).new (o := HO.lst (List.replicate (8 : Int).toNat [V.ref p2]).flatten) h4
    have n4D : p4 ≠ D := fun z => tk4.nd |> fun n => by
      rw [List.nodup_append] at n
      exact n.2.2 D (by simp) p4 (by simp) z.symm
    have e2 : p2 ≠ D := fun z => by
      rw [z, s1 _ _ hL] at h2
      cases h2
    obtain ⟨n43, h4'⟩ := free_upd h4
    obtain ⟨n42, _⟩ := free_upd h4'
    refine ⟨_, hD4, ?_, bs ++ [(p4, p2)], by simp [hl], ?_, fun x hx => ?_, ?_, fun x hx => ?_, ?_⟩
    · rw [List.length_map, hl]
      exact Nat.lt_trans hi (by decide)
    · rw [upd_same, List.map_append]
      rfl
    · rcases List.mem_append.mp hx with z | z
      · obtain ⟨y1, y2⟩ := hb x z
        have n1 : x.1 ≠ D := fun q => by
          have n := tk.nd
          rw [List.nodup_append] at n
          exact n.2.2 D (by simp) x.1 (List.mem_map.mpr ⟨x, z, rfl⟩) q.symm
        have n2 : x.2 ≠ D := ne_of y2 hL (by intro q; cases q)
        rw [upd_ne n1, upd_ne n2]
        exact ⟨s4 _ _ y1, s4 _ _ y2⟩
      · rw [List.mem_singleton] at z
        subst z
        refine ⟨?_, ?_⟩
        · show upd _ D _ p4 = _
          rw [upd_ne n4D, upd_same]
          rfl
        · show upd _ D _ p2 = _
          rw [upd_ne e2, upd_ne n42.symm]
          have n32 : p2 ≠ p3 := fun z => by
            rw [← z, upd_same] at h3
            cases h3
          rw [upd_ne n32, upd_same]
          rfl
    · have := tk4.upd (p := D) (o := HO.lst (bs.map (fun x => V.ref x.1) ++ [V.ref p4]))
      simpa using this
    · rcases List.mem_append.mp hx with z | z
      · exact hf x z
      · rw [List.mem_singleton] at z
        subst z
        exact sm.free f4
    · exact fun b o hb' => by
        rw [upd_ne (ne_of_none hb' hD)]
        exact s4 b o (sm b o hb')
  · rintro H1 ⟨bs, hl, hL, hb, tk, hf, sm⟩
    exact hd H1 bs hl hL hb tk hf sm
end
end Rb
namespace Rb
open PySem PySem.Spec PyProof.Rows L2
section
variable {P : Program} {w : World} {K : PySem.W.Frag} {mg : Str → Option Value} {base : Heap}
theorem len2 {α : Type} {l : List α} (h : l.length = 2) : ∃ a b, l = [a, b] := by
  match l, h with
  | [a, b], _ => exact ⟨a, b, rfl⟩
theorem ok_Memory_init (T : Top K mg) : FnC P w K mg base CX0 6 (He.ma K (He.ga K "Memory") "__init__") (spMemI (CM K) (CG K)) := by
  have G_Guard___init__ := ok_Guard_init (P := P) (w := w) (base := base) T
  have G_first_cells := ok_first_cells (P := P) (w := w) (base := base) T
  refine fnc0 T.d_Memory___init__ sc_Memory___init__ (fun _ _ _ _ _ _ us hl => match us, hl with | [_], _ => rfl) (fun vs H Q E h => ?_) (fun cdv A outer s H vs Q E hr h => ?_)
  · obtain ⟨m, d, rfl, _⟩ := h
    rfl
  · obtain ⟨m, d, rfl, hm, hdd, nmd, k⟩ := h
    refine ⟨_, (pss_cons (ps_fld (pv 0) pe_int rfl)
    (pss_cons (ps_fld (pv 0) (pe_lc (own := [("device", 1)]) (g := gName 1) (tt := tYes) rfl sc_Memory___init__.nd (pi_range1 (by rfl) T.b_range (pa_cons (pe_gc (by rfl) T.c_DEVICES) pa_nil)) (blkOk_by (N := ["self", "device"]) (sc := defScope s_Memory___init__) (by decide +kernel)) (fun _ _ _ _ _ => (pg_name (i := 1) sc_Memory___init__.nd rfl (Or.inl rfl))) (fun _ _ _ _ _ => pts_nil) (fun _ _ _ _ _ => (pe_k0 G_Guard___init__ hr (by decide) (by rfl) T.g_Guard T.mk_Guard pass0))) rfl)
    (pss_cons (ps_fld (pv 0) (pe_f0 G_first_cells hr (by decide) (by rfl) T.g_first_cells pass0) rfl)
    (pss_cons (ps_fld (pv 0) (pe_lc (own := [("device", 1)]) (g := gName 1) (tt := tYes) rfl sc_Memory___init__.nd (pi_range1 (by rfl) T.b_range (pa_cons (pe_gc (by rfl) T.c_DEVICES) pa_nil)) (blkOk_by (N := ["self", "device"]) (sc := defScope s_Memory___init__) (by decide +kernel)) (fun _ _ _ _ _ => (pg_name (i := 1) sc_Memory___init__.nd rfl (Or.inl rfl))) (fun _ _ _ _ _ => pts_nil) (fun _ _ _ _ _ => (pe_op op_rep (pe_lst (pa_cons (pe_op (r := rRepT K) op_repT (pe_tup (pa_cons pe_int pa_nil)) (pe_gc (by rfl) T.c_CELLS)) pa_nil)) (pe_gc (by rfl) T.c_BLOCKS)))) rfl)
    (pss_cons (ps_fld (pv 0) (pe_op op_rep (pe_lst (pa_cons (pe_tup pa_nil) pa_nil)) (pe_gc (by rfl) T.c_DEVICES)) rfl)
    (pss_one (ps_fld (pv 0) (pe_lst pa_nil) rfl))))))), ?_⟩
    -- self.count = 0
    refine ⟨_, rfl, m, CM K, d, List.zip [] [], rfl, hm, T.cl_Memory, T.na_Memory_count, (by decide), ?_⟩
    rw [zx (by decide +kernel) rfl]
    generalize eH1 : upd H m (.ins (CM K) d (List.zip ([] ++ [("count" : Str)]) ([] ++ [V.int 0]))) = H1
    have m1 : H1 m = some (.ins (CM K) d (List.zip ["count"] [.int 0])) := by
      rw [← eH1, upd_same]
      rfl
    have k1 : ∀ b o, H b = some o → b ≠ m → H1 b = some o := fun b o hb n => by
      rw [← eH1, upd_ne n]
      exact hb
    have d1 : H1 d = some (.own m) := k1 _ _ hdd nmd.symm
    have t1 : Trk H1 [m, d] := ⟨by simp [nmd], fun a ha => by
      simp at ha
      rcases ha with rfl | rfl
      · exact some_ne m1
      · exact some_ne d1⟩
    have f1 : ∀ a, H1 a = none → H a = none := fun a ha => by
      rw [← eH1] at ha
      exact (free_upd ha).2
    -- self.guards = [Guard() for device in range(DEVICES)]
    refine ⟨2, rfl, by decide, by decide, fun aG hG => ?_⟩
    refine guards_comp (m := m) (d := d) rfl (fun _ => rfl) t1 hG ?_
    rintro H2 gs hgl hGL hgs t2 hf2 s2
    obtain ⟨L0, L1, rfl⟩ := len2 hgl
    have m2 := s2 _ _ m1
    refine ⟨_, rfl, m, CM K, d, List.zip ["count"] [.int 0], rfl, m2, T.cl_Memory, T.na_Memory_guards, (by show 1 < 1000; decide), ?_⟩
    rw [zx (by decide +kernel) rfl]
    -- self._cells = first_cells()
    refine ⟨rfl, fun aC H3 hC0 s3 hC => ?_⟩
    obtain ⟨nCm, hC0⟩ := free_upd hC0
    have m3 : H3 m = some (.ins (CM K) d (List.zip ["count", "guards"] [.int 0, .ref aG])) := s3 _ _ upd_same
    refine ⟨_, rfl, m, CM K, d, _, rfl, m3, T.cl_Memory, T.na_Memory__cells, (by show 2 < 1000; decide), ?_⟩
    rw [zx (by decide +kernel) rfl]
    generalize eH4 : upd H3 m (.ins (CM K) d (List.zip ((["count", "guards"] : List Str) ++ [("_cells" : Str)]) ([.int 0, .ref aG] ++ [V.ref aC]))) = H4
    have m4 : H4 m = some (.ins (CM K) d (List.zip ["count", "guards", "_cells"] [.int 0, .ref aG, .ref aC])) := by
      rw [← eH4, upd_same]
      rfl
    have k24 : ∀ b o, H2 b = some o → b ≠ m → H4 b = some o := fun b o hb n => by
      rw [← eH4, upd_ne n]
      refine s3 b o ?_
      rw [upd_ne n]
      exact hb
    have k34 : ∀ b o, H3 b = some o → b ≠ m → H4 b = some o := fun b o hb n => by
      rw [← eH4, upd_ne n]
      exact hb
    have tr4 : ∀ a, H2 a ≠ none → H4 a ≠ none := fun a ha => by
      by_cases e : a = m
      · rw [e]
        exact some_ne m4
      · cases q : H2 a with
        | none => exact absurd q ha
        | some o => exact some_ne (k24 a o q e)
    have t4 : Trk H4 ([m, d, aG] ++ [L0, L1].flatMap GL.all ++ [aC]) := t2.add hC0 (some_ne (k34 _ _ hC nCm)) fun a _ ha => tr4 a ha
    have f4 : ∀ a, H4 a = none → H2 a = none := fun a ha => by
      cases q : H2 a with
      | none => rfl
      | some o => exact absurd ha (tr4 a (some_ne q))
    -- self._blocks = [..]
    refine ⟨2, rfl, by decide, by decide, fun aB hB => ?_⟩
    refine blocks_comp (fun _ => rfl) t4 hB ?_
    rintro H5 bs hbl hBL hbs t5 hf5 s5
    obtain ⟨⟨b0, z0⟩, ⟨b1, z1⟩, rfl⟩ := len2 hbl
    have m5 := s5 _ _ m4
    refine ⟨_, rfl, m, CM K, d, _, rfl, m5, T.cl_Memory, T.na_Memory__blocks, (by show 3 < 1000; decide), ?_⟩
    rw [zx (by decide +kernel) rfl]
    generalize eH6 : upd H5 m (.ins (CM K) d (List.zip ((["count", "guards", "_cells"] : List Str) ++ [("_blocks" : Str)]) ([.int 0, .ref aG, .ref aC] ++ [V.ref aB]))) = H6
    have m6 : H6 m = some (.ins (CM K) d (List.zip ["count", "guards", "_cells", "_blocks"] [.int 0, .ref aG, .ref aC, .ref aB])) := by
      rw [← eH6, upd_same]
      rfl
    have k56 : ∀ b o, H5 b = some o → b ≠ m → H6 b = some o := fun b o hb n => by
      rw [← eH6, upd_ne n]
      exact hb
    have tr6 : ∀ a, H5 a ≠ none → H6 a ≠ none := fun a ha => by
      rw [← eH6]
      exact dom_upd ha
    -- self._journals = [()] * DEVICES
    refine ⟨by decide, fun t ht => ⟨(by show 1 ≤ sizeLine; decide), fun l hl => ⟨l, 2, [.ref t], rfl, rfl, upd_same, by decide, by decide, (by show 1 * 2 ≤ sizeLine; decide), fun aJ hJ => ?_⟩⟩⟩
    obtain ⟨nJl, hJ'⟩ := free_upd hJ
    obtain ⟨nJt, hJ6⟩ := free_upd hJ'
    obtain ⟨nlt, hl6⟩ := free_upd hl
    have s67 : Same H6 (upd (upd (upd H6 t (.tup [])) l (.lst [.ref t])) aJ (.lst (List.replicate (2 : Int).toNat [V.ref t]).flatten)) :=
      Same.new (Same.new (Same.new (Same.refl H6) ht) hl6) hJ6
    refine ⟨_, rfl, m, CM K, d, _, rfl, s67 _ _ m6, T.cl_Memory, T.na_Memory__journals, (by show 4 < 1000; decide), ?_⟩
    rw [zx (by decide +kernel) rfl]
    have eJ : upd (upd (upd H6 t (.tup [])) l (.lst [.ref t])) aJ (.lst (List.replicate (2 : Int).toNat [V.ref t]).flatten) aJ = some (.lst [.ref t, .ref t]) := upd_same
    have eT : upd (upd (upd H6 t (.tup [])) l (.lst [.ref t])) aJ (.lst (List.replicate (2 : Int).toNat [V.ref t]).flatten) t = some (.tup []) := by
      rw [upd_ne nJt.symm, upd_ne nlt.symm, upd_same]
    generalize upd (upd (upd H6 t (.tup [])) l (.lst [.ref t])) aJ (.lst (List.replicate (2 : Int).toNat [V.ref t]).flatten) = H7 at s67 eJ eT
    have nJm : aJ ≠ m := fun z => by
      rw [z, m6] at hJ6
      cases hJ6
    generalize eH8 : upd H7 m (.ins (CM K) d (List.zip ((["count", "guards", "_cells", "_blocks"] : List Str) ++ [("_journals" : Str)]) ([.int 0, .ref aG, .ref aC, .ref aB] ++ [V.ref aJ]))) = H8
    have m8 : H8 m = some (.ins (CM K) d (List.zip ["count", "guards", "_cells", "_blocks", "_journals"] [.int 0, .ref aG, .ref aC, .ref aB, .ref aJ])) := by
      rw [← eH8, upd_same]
      rfl
    have k78 : ∀ b o, H7 b = some o → b ≠ m → H8 b = some o := fun b o hb n => by
      rw [← eH8, upd_ne n]
      exact hb
    -- self._log = []
    refine ⟨by decide, fun aL hL => ?_⟩
    have s8 : Same H8 (upd H8 aL (.lst [])) := Same.new (Same.refl H8) hL
    refine ⟨_, rfl, m, CM K, d, _, rfl, s8 _ _ m8, T.cl_Memory, T.na_Memory__log, (by show 5 < 1000; decide), ?_⟩
    rw [zx (by decide +kernel) rfl]
    have nLm : aL ≠ m := fun z => by
      rw [z, m8] at hL
      cases hL
    -- what stands behind
    have k58 : ∀ b o, H5 b = some o → b ≠ m → H8 b = some o := fun b o hb n => k78 b o (s67 b o (k56 b o hb n)) n
    have k28 : ∀ b o, H2 b = some o → b ≠ m → H8 b = some o := fun b o hb n => k58 b o (s5 b o (k24 b o hb n)) n
    have tr8 : ∀ a, H5 a ≠ none → H8 a ≠ none := fun a ha => by
      by_cases e : a = m
      · rw [e]
        exact some_ne m8
      · cases q : H5 a with
        | none => exact absurd q ha
        | some o => exact some_ne (k58 a o q e)
    have f5 : ∀ a, H5 a = none → H2 a = none := fun a ha => f4 a (s5.free ha)
    have f6 : ∀ a, H6 a = none → H5 a = none := fun a ha => by
      rw [← eH6] at ha
      exact (free_upd ha).2
    have f8 : ∀ a, H8 a = none → H5 a = none := fun a ha => by
      cases q : H5 a with
      | none => rfl
      | some o => exact absurd ha (tr8 a (some_ne q))
    have t8 := (t5.adds (ps := [aJ]) (by simp) (fun p hp => by
      rw [List.mem_singleton.mp hp]
      exact f6 aJ hJ6) (fun p hp => by
      rw [List.mem_singleton.mp hp]
      exact some_ne (k78 _ _ eJ nJm)) fun a _ ha => tr8 a ha)
    have t9 := t8.new (o := HO.lst []) hL
    have fin : ∀ b o, H8 b = some o → b ≠ m → upd (upd H8 aL (.lst [])) m (.ins (CM K) d (List.zip ((["count", "guards", "_cells", "_blocks", "_journals"] : List Str) ++ [("_log" : Str)]) ([.int 0, .ref aG, .ref aC, .ref aB, .ref aJ] ++ [V.ref aL]))) b = some o := fun b o hb n => by
      rw [upd_ne n]
      exact s8 b o hb
    refine k ⟨m, d, aG, aC, aB, fun i => if i = 0 then b0 else b1, aJ, aL, fun i => if i = 0 then L0 else L1⟩ _ (fun i => if i = 0 then z0 else z1) t rfl rfl ?_ (fun a ha => ?_) (fun i hi => ?_) ?_ (fun b o hb nb => ?_)
    · have nm : ∀ a ∈ [d, aG] ++ [L0, L1].flatMap GL.all ++ [aC, aB, b0, b1, aJ, aL], a ≠ m := fun a ha z => by
        have n := t9.nd
        simp only [List.cons_append, List.nil_append, List.append_assoc, List.flatMap_cons, List.flatMap_nil, List.map_cons, List.map_nil, List.append_nil] at n ha
        rw [List.nodup_cons] at n
        subst z
        exact n.1 (by simpa using ha)
      have gk : ∀ L ∈ [L0, L1], GuardAt (CG K) L (upd (upd H8 aL (.lst [])) m (.ins (CM K) d (List.zip ((["count", "guards", "_cells", "_blocks", "_journals"] : List Str) ++ [("_log" : Str)]) ([.int 0, .ref aG, .ref aC, .ref aB, .ref aJ] ++ [V.ref aL])))) G0 := fun L hL' => by
        have g := hgs L hL'
        have nn : ∀ b ∈ L.all, b ≠ m := fun b hb => nm b (List.mem_append_left _ (List.mem_append_right _ (List.mem_flatMap.mpr ⟨L, hL', hb⟩)))
        exact ⟨fin _ _ (k28 _ _ g.og (nn _ (by simp [GL.all]))) (nn _ (by simp [GL.all])), fin _ _ (k28 _ _ g.od (nn _ (by simp [GL.all]))) (nn _ (by simp [GL.all])),
          fin _ _ (k28 _ _ g.oe (nn _ (by simp [GL.all]))) (nn _ (by simp [GL.all])), fin _ _ (k28 _ _ g.oq (nn _ (by simp [GL.all]))) (nn _ (by simp [GL.all]))⟩
      have ndm : d ≠ m := nmd.symm
      have nGm : aG ≠ m := nm _ (by simp)
      have nBm : aB ≠ m := nm _ (by simp)
      have n0m : b0 ≠ m := nm _ (by simp)
      have n1m : b1 ≠ m := nm _ (by simp)
      refine ⟨upd_same, fin _ _ (k28 _ _ (s2 _ _ d1) ndm) ndm, fin _ _ (k28 _ _ hGL nGm) nGm, fin _ _ (k58 _ _ (s5 _ _ (k34 _ _ hC nCm)) nCm) nCm, fin _ _ (k58 _ _ hBL nBm) nBm, fun i hi => ?_,
        fin _ _ (k78 _ _ eJ nJm) nJm, ?_, fun i hi => ?_, ?_⟩
      · rcases lt2 hi with rfl | rfl
        · exact fin _ _ (k58 _ _ (hbs (b0, z0) (by simp)).1 n0m) n0m
        · exact fin _ _ (k58 _ _ (hbs (b1, z1) (by simp)).1 n1m) n1m
      · show upd _ m _ aL = _
        rw [upd_ne nLm, upd_same]
        rfl
      · rcases lt2 hi with rfl | rfl
        · exact gk L0 (by simp)
        · exact gk L1 (by simp)
      · have n := t9.nd
        simp only [ML.all, List.cons_append, List.nil_append, List.append_assoc, List.flatMap_cons, List.flatMap_nil, List.map_cons, List.map_nil, List.append_nil] at n ⊢
        exact n
    · simp only [ML.all, List.cons_append, List.nil_append, List.append_assoc, List.mem_cons, List.mem_append, List.not_mem_nil, or_false] at ha
      have h0 : ∀ a ∈ [L0, L1].flatMap GL.all, H a = none := fun a ha => f1 a (hf2 a ha)
      rcases ha with e | e | e | ha | ha | e | e | e | e | e | e
      · exact .inl e
      · exact .inr (.inl e)
      · exact .inr (.inr (by rw [e]; exact f1 _ hG))
      · exact .inr (.inr (h0 a (List.mem_flatMap.mpr ⟨L0, by simp, ha⟩)))
      · exact .inr (.inr (h0 a (List.mem_flatMap.mpr ⟨L1, by simp, ha⟩)))
      · exact .inr (.inr (by rw [e]; exact f1 _ (s2.free hC0)))
      · exact .inr (.inr (by rw [e]; exact f1 _ (s2.free (f4 _ hB))))
      · have e' : a = b0 := e
        exact .inr (.inr (by rw [e']; exact f1 _ (s2.free (f4 _ (hf5 (b0, z0) (by simp))))))
      · have e' : a = b1 := e
        exact .inr (.inr (by rw [e']; exact f1 _ (s2.free (f4 _ (hf5 (b1, z1) (by simp))))))
      · exact .inr (.inr (by rw [e]; exact f1 _ (s2.free (f5 _ (f6 _ hJ6)))))
      · exact .inr (.inr (by rw [e]; exact f1 _ (s2.free (f5 _ (f8 _ hL)))))
    · have nz : ∀ z, H5 z = some (.tup zero4) → z ≠ m := fun z hz => ne_of hz m5 (by intro q; cases q)
      rcases lt2 hi with rfl | rfl
      · have y := (hbs (b0, z0) (by simp)).2
        exact fin _ _ (k58 _ _ y (nz _ y)) (nz _ y)
      · have y := (hbs (b1, z1) (by simp)).2
        exact fin _ _ (k58 _ _ y (nz _ y)) (nz _ y)
    · have ntm : t ≠ m := ne_of eT (s67 _ _ m6) (by intro q; cases q)
      exact fin _ _ (k78 _ _ eT ntm) ntm
    · exact fin _ _ (k28 _ _ (s2 _ _ (k1 b o hb nb)) nb) nb
end
end Rb
namespace Rb
open PySem PySem.Spec PyProof.Rows L2
theorem lk_e {e q : Addr} {n : Int} : (gFld e q n).lookup ("_entries" : Str) = some (.ref e) := zl (i := 0) (by decide +kernel) rfl
theorem lk_q {e q : Addr} {n : Int} : (gFld e q n).lookup ("_queue" : Str) = some (.ref q) := zl (i := 1) (by decide +kernel) rfl
theorem lk_t {e q : Addr} {n : Int} : (gFld e q n).lookup ("_tickets" : Str) = some (.int n) := zl (i := 2) (by decide +kernel) rfl
theorem lm_c {n : Int} {aG aC aB aJ aL : Addr} : (mFld n aG aC aB aJ aL).lookup ("count" : Str) = some (.int n) := zl (i := 0) (by decide +kernel) rfl
theorem lm_g {n : Int} {aG aC aB aJ aL : Addr} : (mFld n aG aC aB aJ aL).lookup ("guards" : Str) = some (.ref aG) := zl (i := 1) (by decide +kernel) rfl
theorem lm_C {n : Int} {aG aC aB aJ aL : Addr} : (mFld n aG aC aB aJ aL).lookup ("_cells" : Str) = some (.ref aC) := zl (i := 2) (by decide +kernel) rfl
theorem lm_B {n : Int} {aG aC aB aJ aL : Addr} : (mFld n aG aC aB aJ aL).lookup ("_blocks" : Str) = some (.ref aB) := zl (i := 3) (by decide +kernel) rfl
theorem lm_J {n : Int} {aG aC aB aJ aL : Addr} : (mFld n aG aC aB aJ aL).lookup ("_journals" : Str) = some (.ref aJ) := zl (i := 4) (by decide +kernel) rfl
theorem lm_L {n : Int} {aG aC aB aJ aL : Addr} : (mFld n aG aC aB aJ aL).lookup ("_log" : Str) = some (.ref aL) := zl (i := 5) (by decide +kernel) rfl
/-- the entries' tuples -/
def EntT (kvs : List (Key × V)) (H : Hp) (t : Addr) (y : Int) : Prop := ∃ v, valV kvs (Sum.inl y : Key) = some v ∧ H t = some (.tup [.int y, v])
def spEntries (C : Addr) : Sp := fun vs H Q _ => ∃ (L : GL) (G : GS) (ks : List Int), vs = [.ref L.g] ∧ GuardAt C L H G ∧ G.ents.map (·.1) = ks.map Sum.inl ∧ ks.length < 64 ∧
  ∀ (p : Addr) (H' : Hp) (ys : List Int) (ts : List Addr), ys.Perm ks → ys.Pairwise (· ≤ ·) → H p = none → Same H H' → H' p = some (.lst (ts.map V.ref)) → Paired (EntT G.ents H') ts ys → Q (.ref p) H'
def spQueue (C : Addr) : Sp := fun vs H Q _ => ∃ (L : GL) (G : GS), vs = [.ref L.g] ∧ GuardAt C L H G ∧ ∀ (p : Addr), H p = none → Q (.ref p) (upd H p (.lst G.que))
section
variable {P : Program} {w : World} {K : PySem.W.Frag} {mg : Str → Option Value} {base : Heap}
theorem ok_Guard_entries (T : Top K mg) : FnC P w K mg base CX0 1 (He.ma K (He.ga K "Guard") "entries") (spEntries (CG K)) := by
  refine fnc0 T.d_Guard_entries sc_Guard_entries (fun _ _ _ _ _ _ us hl => match us, hl with | [_], _ => rfl) (fun vs H Q E h => ?_) (fun cdv A outer s H vs Q E hr h => ?_)
  · obtain ⟨L, G, ks, rfl, _⟩ := h
    rfl
  · obtain ⟨L, G, ks, rfl, hG, hk, hl, k⟩ := h
    have hu := hu_of hr
    refine ⟨_, (pss_one (ps_ret (pe_lc (own := [("page", 1)]) (g := gName 1) (tt := tYes) rfl sc_Guard_entries.nd (pi_list (pe_callB (call_sortedDI rfl) (by rfl) T.b_sorted (by decide +kernel) (pa_cons (pe_fld (pv 0) rfl) pa_nil))) (blkOk_by (N := ["self", "page"]) (sc := defScope s_Guard_entries) (by decide +kernel)) (fun _ _ _ _ _ => (pg_name (i := 1) sc_Guard_entries.nd rfl (Or.inl rfl))) (fun _ _ _ _ _ => pts_nil) (fun _ _ _ _ _ => (pe_tup (pa_cons (pv 1) (pa_cons (pe_dget hu (pe_fldK (K := K) rfl (pv 0) rfl) (pv 1) (fun _ _ => rfl)) pa_nil))))))), ?_⟩
    refine ⟨_, rfl, L.g, CG K, L.d, _, _, rfl, hG.og, T.cl_Guard, T.na_Guard__entries, lk_e, L.e, G.ents, ks, rfl, .inl hG.oe, hk, hl, fun ys p0 hp hs h0 => ?_⟩
    refine ⟨p0, rfl, ⟨_, SqL.of upd_same⟩, fun D hD => ?_⟩
    obtain ⟨nDp, hD0⟩ := free_upd hD
    have s0 : Same H (upd H p0 (.lst (ys.map V.int))) := Same.new (Same.refl H) h0
    refine lc_list (K := K) (a := p0) (xs := ys.map V.int) (fun i H1 => ∃ ts : List Addr, H1 D = some (.lst (ts.map V.ref)) ∧ Paired (EntT G.ents H1) ts (ys.take i) ∧ Same (upd H p0 (.lst (ys.map V.int))) H1) ?_ ?_ ?_ ?_
    · exact ⟨[], upd_same, .nil, Same.new (Same.refl _) hD⟩
    · rintro i H1 hi ⟨ts, _, _, s1⟩
      exact SqL.of (s1 _ _ upd_same)
    · rintro i x H1 hx ⟨ts, hL, hp1, s1⟩
      obtain ⟨y, hy, rfl⟩ : ∃ y, ys[i]? = some y ∧ x = V.int y := by
        rw [List.getElem?_map] at hx
        cases e : ys[i]? with
        | none =>
          rw [e] at hx
          cases hx
        | some y =>
          rw [e] at hx
          exact ⟨y, rfl, (Option.some.inj hx).symm⟩
      refine ⟨rfl, ?_⟩
      have hin : y ∈ ks := hp.mem_iff.mp (List.mem_of_getElem? hy)
      obtain ⟨v, hv⟩ : ∃ v, valV G.ents (Sum.inl y : Key) = some v := by
        have hm : (Sum.inl y : Key) ∈ G.ents.map (·.1) := by
          rw [hk]
          exact List.mem_map.mpr ⟨y, hin, rfl⟩
        cases e : valV G.ents (Sum.inl y : Key) with
        | some v => exact ⟨v, rfl⟩
        | none => exact absurd hm (valV_not e)
      have g1 : H1 L.g = _ := s1 _ _ (s0 _ _ hG.og)
      have e1 : H1 L.e = _ := s1 _ _ (s0 _ _ hG.oe)
      have dg : DGet H1 L.e (V.int y) (some v) := by
        rw [← hv]
        exact DGet.k (k := Sum.inl y) e1
      refine ⟨_, rfl, _, rfl, L.g, CG K, L.d, _, _, rfl, g1, T.cl_Guard, T.na_Guard__entries, lk_e, _, rfl, L.e, v, rfl, dg, (by show 2 ≤ sizeLine; decide), fun t ht => ?_⟩
      have s2 : Same H1 (upd H1 t (.tup [.int y, v])) := Same.new (Same.refl H1) ht
      have hD2 := s2 _ _ hL
      have ntD : t ≠ D := fun z => by
        rw [z, hL] at ht
        cases ht
      have s3 : Same (upd H p0 (.lst (ys.map V.int))) (upd (upd H1 t (.tup [.int y, v])) D (.lst (ts.map V.ref ++ [V.ref t]))) := fun b o hb => by
        rw [upd_ne (ne_of_none hb hD)]
        exact s2 b o (s1 b o hb)
      refine ⟨_, hD2, ?_, ts ++ [t], ?_, ?_, s3⟩
      · rw [List.length_map]
        have e : ts.length = (ys.take i).length := Paired.length hp1
        rw [e]
        have : (ys.take i).length ≤ ks.length := by
          rw [List.length_take, ← hp.length_eq]
          omega
        exact Nat.lt_of_le_of_lt (Nat.le_trans this (Nat.le_of_lt hl)) (by decide)
      · rw [upd_same, List.map_append]
        rfl
      · have e : ys.take (i + 1) = ys.take i ++ [y] := by
          rw [List.take_succ, hy]
          rfl
        rw [e]
        refine Paired.snoc (L2.Paired.mapP hp1 ?_) ?_
        · rintro a b ⟨v', q1, q2⟩
          refine ⟨v', q1, ?_⟩
          have na : a ≠ D := ne_of q2 hL (by intro z; cases z)
          rw [upd_ne na]
          exact s2 _ _ q2
        · exact ⟨v, hv, by rw [upd_ne ntD, upd_same]⟩
    · rintro H1 ⟨ts, hL, hp1, s1⟩
      rw [List.length_map, List.take_length] at hp1
      exact k D H1 ys ts hp hs hD0 (fun b o hb => s1 b o (s0 b o hb)) hL hp1
theorem ok_Guard_queue (T : Top K mg) : FnC P w K mg base CX0 1 (He.ma K (He.ga K "Guard") "queue") (spQueue (CG K)) := by
  refine fnc0 T.d_Guard_queue sc_Guard_queue (fun _ _ _ _ _ _ us hl => match us, hl with | [_], _ => rfl) (fun vs H Q E h => ?_) (fun cdv A outer s H vs Q E hr h => ?_)
  · obtain ⟨L, G, rfl, _⟩ := h
    rfl
  · obtain ⟨L, G, rfl, hG, k⟩ := h
    refine ⟨_, (pss_one (ps_ret (pe_callTy call_list_of (by rfl) T.b_list (by decide +kernel) (pa_cons (pe_fld (pv 0) rfl) pa_nil)))), ?_⟩
    exact ⟨_, rfl, L.g, CG K, L.d, _, _, rfl, hG.og, T.cl_Guard, T.na_Guard__queue, lk_q, L.q, G.que, rfl, .inl (SqL.of hG.oq), k⟩
end
end Rb
namespace Rb
open PySem PySem.Spec PyProof.Rows L2
abbrev NV (K : PySem.W.Frag) : Value := .ref (He.ga K "NotValid")
/-- a number within its bounds is an index -/
theorem isNum_at {v : V} {n : Nat} (h : isNum v (n : Int) = true) : ∃ j : Nat, v = .int (j : Int) ∧ j < n := by
  cases v with
  | int i =>
    have h' : (decide (0 ≤ i) && decide (i < (n : Int))) = true := h
    obtain ⟨a, b⟩ := and2 h'
    have a := of_decide_eq_true a
    have b := of_decide_eq_true b
    exact ⟨i.toNat, congrArg V.int (by omega), by omega⟩
  | _ => cases h
theorem isNum_nat {j n : Nat} (h : j < n) : isNum (.int (j : Int)) (n : Int) = true := by
  show (decide ((0 : Int) ≤ j) && decide ((j : Int) < n)) = true
  rw [decide_eq_true (by omega : (0 : Int) ≤ j), decide_eq_true (by omega : (j : Int) < n)]
  rfl
theorem atI_n {α : Type} {xs : List α} {j : Nat} {x : α} (h : xs[j]? = some x) : atI xs (j : Int) = some x := by
  unfold atI ixN
  have hj : j < xs.length := (List.getElem?_eq_some_iff.mp h).1
  rw [if_pos (by omega), if_pos (by omega)]
  simpa using h
def spPeek (K : PySem.W.Frag) : Sp := fun vs H Q E => ∃ (L : ML) (M : MS) (v : V) (N : String), vs = [.ref L.m, v] ∧ MemAt (CM K) (CG K) L H M ∧ TyB K H v N ∧
  (∀ (j : Nat) (x : V), v = .int (j : Int) → M.cells[j]? = some x → Q x H) ∧ (isNum v (M.cells.length : Int) = false → E (NV K) none H)
def spJournal (K : PySem.W.Frag) : Sp := fun vs H Q E => ∃ (L : ML) (M : MS) (v : V) (N : String), vs = [.ref L.m, v] ∧ MemAt (CM K) (CG K) L H M ∧ TyB K H v N ∧ M.jo.length = 2 ∧
  (∀ (j : Nat) (x : V), v = .int (j : Int) → M.jo[j]? = some x → Q x H) ∧ (isNum v 2 = false → E (NV K) none H)
def spBlock (K : PySem.W.Frag) : Sp := fun vs H Q E => ∃ (L : ML) (M : MS) (v u : V) (N N' : String), vs = [.ref L.m, v, u] ∧ MemAt (CM K) (CG K) L H M ∧ TyB K H v N ∧ TyB K H u N' ∧ (∀ d, d < 2 → (M.bl d).length = 8) ∧
  (∀ (d j : Nat) (x : V), d < 2 → v = .int (d : Int) → u = .int (j : Int) → (M.bl d)[j]? = some x → Q x H) ∧ (isNum v 2 = false ∨ isNum u 8 = false → E (NV K) none H)
def spLog (K : PySem.W.Frag) : Sp := fun vs H Q _ => ∃ (L : ML) (M : MS), vs = [.ref L.m] ∧ MemAt (CM K) (CG K) L H M ∧ ∀ p, H p = none → Q (.ref p) (upd H p (.lst M.log))
section
variable {P : Program} {w : World} {K : PySem.W.Frag} {mg : Str → Option Value} {base : Heap}
theorem ok_journal (T : Top K mg) : FnC P w K mg base (L2.CX P w) 4 (He.ma K (He.ga K "Memory") "journal") (spJournal K) := by
  have G_is_number := ok_is_number (P := P) (w := w) (base := base) T
  have G_NotValid___init__ := ok_NotValid_init (P := P) (w := w) (base := base) T
  refine fnc T.d_Memory_journal sc_Memory_journal (fun _ _ _ _ _ _ us hl => match us, hl with | [_, _], _ => rfl) (fun vs H Q E h => ?_) (fun cdv A outer s H vs Q E hr h => ?_)
  · obtain ⟨L, M, v, N, rfl, _⟩ := h
    rfl
  · obtain ⟨L, M, v, N, rfl, hM, hN, hj2, k, ke⟩ := h
    refine ⟨_, (pss_cons (ps_if (pt_not (pt_val (pe_f G_is_number hr (by decide) (by rfl) T.g_is_number pass0 (pa_cons (pv 1) (pa_cons (pe_gc (by rfl) T.c_DEVICES) pa_nil))))) (pss_one (ps_raise rfl (takes_of rfl rfl rfl rfl) (pmk_bare T.ex_NotValid T.ini_NotValid T.ity_NotValid G_NotValid___init__ hr (by decide) pass0 (by rfl) T.g_NotValid))) pss_nil)
    (pss_one (ps_ret (pe_ix ix_list (pe_fld (pv 0) rfl) (pv 1) (fun _ _ => rfl))))), ?_⟩
    refine ⟨_, rfl, v, N, _, rfl, hN, _, rfl, ?_⟩
    cases e : isNum v 2 with
    | false => exact ⟨fun a ha => ⟨a, _, rfl, T.ex_NotValid, upd_same, rfl, rfl⟩, ke e⟩
    | true =>
      obtain ⟨j, rfl, hj⟩ := isNum_at (n := 2) e
      have hx : M.jo[j]? = some (M.jo[j]'(by omega)) := List.getElem?_eq_getElem (by omega)
      exact ⟨_, rfl, L.m, CM K, L.d, _, _, rfl, hM.om, T.cl_Memory, T.na_Memory__journals, lm_J, _, rfl, L.aJ, M.jo, _, _, rfl, rfl, SqL.of hM.oj, atI_n hx, k j _ rfl hx⟩
theorem ok_block (T : Top K mg) : FnC P w K mg base (L2.CX P w) 4 (He.ma K (He.ga K "Memory") "block") (spBlock K) := by
  have G_is_number := ok_is_number (P := P) (w := w) (base := base) T
  have G_NotValid___init__ := ok_NotValid_init (P := P) (w := w) (base := base) T
  refine fnc T.d_Memory_block sc_Memory_block (fun _ _ _ _ _ _ us hl => match us, hl with | [_, _, _], _ => rfl) (fun vs H Q E h => ?_) (fun cdv A outer s H vs Q E hr h => ?_)
  · obtain ⟨L, M, v, u, N, N', rfl, _⟩ := h
    rfl
  · obtain ⟨L, M, v, u, N, N', rfl, hM, hN, hN', h8, k, ke⟩ := h
    refine ⟨_, (pss_cons (ps_if (PW.pt (pw_or (pt_not (pt_val (pe_f G_is_number hr (by decide) (by rfl) T.g_is_number pass0 (pa_cons (pv 1) (pa_cons (pe_gc (by rfl) T.c_DEVICES) pa_nil))))) (pw_or1 (pt_not (pt_val (pe_f G_is_number hr (by decide) (by rfl) T.g_is_number pass0 (pa_cons (pv 2) (pa_cons (pe_gc (by rfl) T.c_BLOCKS) pa_nil)))))))) (pss_one (ps_raise rfl (takes_of rfl rfl rfl rfl) (pmk_bare T.ex_NotValid T.ini_NotValid T.ity_NotValid G_NotValid___init__ hr (by decide) pass0 (by rfl) T.g_NotValid))) pss_nil)
    (pss_one (ps_ret (pe_ix ix_list (pe_ix ix_list (pe_fld (pv 0) rfl) (pv 1) (fun _ _ => rfl)) (pv 2) (fun _ _ => rfl))))), ?_⟩
    refine ⟨_, rfl, v, N, _, rfl, hN, _, rfl, ?_⟩
    cases e : isNum v 2 with
    | false => exact ⟨fun a ha => ⟨a, _, rfl, T.ex_NotValid, upd_same, rfl, rfl⟩, ke (.inl e)⟩
    | true =>
      refine ⟨_, rfl, u, N', _, rfl, hN', _, rfl, ?_⟩
      cases e' : isNum u 8 with
      | false => exact ⟨fun a ha => ⟨a, _, rfl, T.ex_NotValid, upd_same, rfl, rfl⟩, ke (.inr e')⟩
      | true =>
        obtain ⟨d, rfl, hd⟩ := isNum_at (n := 2) e
        obtain ⟨j, rfl, hj⟩ := isNum_at (n := 8) e'
        have hx : (M.bl d)[j]? = some ((M.bl d)[j]'(by rw [h8 d hd]; exact hj)) := List.getElem?_eq_getElem (by rw [h8 d hd]; exact hj)
        have hb : ([V.ref (L.bl 0), V.ref (L.bl 1)] : List V)[d]? = some (V.ref (L.bl d)) := by
          rcases lt2 hd with rfl | rfl <;> rfl
        exact ⟨_, rfl, L.m, CM K, L.d, _, _, rfl, hM.om, T.cl_Memory, T.na_Memory__blocks, lm_B, _, rfl, L.aB, _, _, _, rfl, rfl, SqL.of hM.ob, atI_n hb, _, rfl, L.bl d, M.bl d, _, _, rfl, rfl, SqL.of (hM.obl d hd), atI_n hx, k d j _ hd rfl rfl hx⟩
theorem ok_log (T : Top K mg) : FnC P w K mg base CX0 1 (He.ma K (He.ga K "Memory") "log") (spLog K) := by
  refine fnc0 T.d_Memory_log sc_Memory_log (fun _ _ _ _ _ _ us hl => match us, hl with | [_], _ => rfl) (fun vs H Q E h => ?_) (fun cdv A outer s H vs Q E hr h => ?_)
  · obtain ⟨L, M, rfl, _⟩ := h
    rfl
  · obtain ⟨L, M, rfl, hM, k⟩ := h
    refine ⟨_, (pss_one (ps_ret (pe_callTy call_list_of (by rfl) T.b_list (by decide +kernel) (pa_cons (pe_fld (pv 0) rfl) pa_nil)))), ?_⟩
    exact ⟨_, rfl, L.m, CM K, L.d, _, _, rfl, hM.om, T.cl_Memory, T.na_Memory__log, lm_L, L.aL, M.log, rfl, .inl (SqL.of hM.ol), k⟩
end
end Rb
namespace Rb
open PySem PySem.Spec PyProof.Rows L2
def spIsValue (K : PySem.W.Frag) : Sp := fun vs H Q _ => ∃ (v : V) (d : PyData), vs = [v] ∧ Dp K H v d ∧ noL d = true ∧ sz d ≤ 4000 ∧ ∀ H', Same H H' → Q (.bl (isVal d)) H'
section
variable {P : Program} {w : World} {K : PySem.W.Frag} {mg : Str → Option Value} {base : Heap}
theorem ok_is_value (T : Top K mg) : FnC P w K mg base CX0 1 (He.ga K "is_value") (spIsValue K) := by
  refine fnc0 T.d_is_value sc_is_value (fun _ _ _ _ _ _ us hl => match us, hl with | [_], _ => rfl) (fun vs H Q E h => ?_) (fun cdv A outer s H vs Q E hr h => ?_)
  · obtain ⟨v, d, rfl, _⟩ := h
    rfl
  · obtain ⟨v, d, rfl, hd, nl, hz, k⟩ := h
    refine ⟨_, (pss_cons (ps_set (i := 1) sc_is_value.nd rfl (Or.inl rfl) (pe_lst (pa_cons (pv 0) pa_nil)))
    (pss_cons (ps_while PassesOwn.never (pt_truth (pv 1) (fun _ => rfl)) (pss_cons (ps_set (i := 2) sc_is_value.nd rfl (Or.inl rfl) (pe_bm0 PySem.F.plainAttrs_list PySem.F.slot_list_pop PySem.F.type_list_pop mt_pop (pv 1)))
    (pss_one (ps_if (pt_cmpR op_isTyB (pe_callTy call_type1 (by rfl) T.b_type (by decide +kernel) (pa_cons (pv 2) pa_nil)) (pe_bltn (v := .ty "tuple") (by rfl) T.b_tuple (by decide +kernel) rfl) (nomark _)) (pss_one (ps_expr (pe_bm PySem.F.plainAttrs_list PySem.F.slot_list_extend PySem.F.type_list_extend mt_extT (pv 1) (pa_cons (pv 2) pa_nil)))) (pss_one (ps_if (PW.pt (pw_and (pt_cmp (pc_notN (pv 2))) (pw_and1 (pt_cmpR op_notInTy (pe_callTy call_type1 (by rfl) T.b_type (by decide +kernel) (pa_cons (pv 2) pa_nil)) (pe_tup (pa_cons (pe_bltn (v := .ty "int") (by rfl) T.b_int (by decide +kernel) rfl) (pa_cons (pe_bltn (v := .ty "str") (by rfl) T.b_str (by decide +kernel) rfl) pa_nil))) rfl)))) (pss_one (ps_ret pe_bl)) pss_nil))))))
    (pss_one (ps_ret pe_bl)))), ?_⟩
    refine ⟨_, rfl, (by rw [sizeLine_eq]; show 1 ≤ _; omega), fun p hp => ?_⟩
    have s0 : Same H (upd H p (.lst [v])) := Same.new (Same.refl H) hp
    refine ⟨fun m σ H1 => ∃ vs ds pt, σ = [some v, some (.ref p), pt] ∧ H1 p = some (.lst vs) ∧ DpAll K H1 vs ds ∧ noLs ds = true ∧ isVals ds = isVal d ∧ szs ds ≤ 4000 ∧ Same H H1 ∧ m = szs ds, ?_, ?_⟩
    · have hd' : Dp K (upd H p (.lst [v])) v d := Dp.ts (TSame.same s0) d v nl hd
      refine ⟨_, [v], [d], none, rfl, upd_same, .cons hd' .nil, ?_, ?_, ?_, s0, rfl⟩
      · show (noL d && true) = true
        rw [nl]
        rfl
      · show (isVal d && true) = isVal d
        rw [Bool.and_true]
      · show sz d + 0 ≤ 4000
        exact hz
    · rintro m σ H1 ⟨vs, ds, pt, rfl, hH, hD, hn, hv, hs, sm, rfl⟩
      refine ⟨_, rfl, _, .inl ⟨vs, SqL.of hH, rfl⟩, ?_⟩
      by_cases ne : vs = []
      · subst ne
        cases hD
        have e : isVal d = true := hv.symm
        have kk := k H1 sm
        rw [e] at kk
        exact kk
      · obtain ⟨ws, x, es, d1, e1, e2, hA, hX⟩   := Rb.DpAll.last hD ne
        subst e1 e2
        rw [noLs_app] at hn
        obtain ⟨n1, n2⟩ := and2 hn
        have n3 : noL d1 = true := (and2 (show (noL d1 && true) = true from n2)).1
        rw [isVals_app] at hv
        have hv' : (isVals es && isVal d1) = isVal d := by
          rw [← hv]
          show _ = (isVals es && (isVal d1 && true))
          rw [Bool.and_true]
        rw [szs_app] at hs
        have hs' : szs es + sz d1 ≤ 4000 := hs
        have eb : (!(ws ++ [x]).isEmpty) = true := by simp
        rw [eb]
        rw [if_pos rfl]
        refine ⟨fun σ' H' => ∃ vs' ds' pt', σ' = [some v, some (.ref p), pt'] ∧ H' p = some (.lst vs') ∧ DpAll K H' vs' ds' ∧ noLs ds' = true ∧ isVals ds' = isVal d ∧ szs ds' ≤ 4000 ∧ Same H H' ∧ szs ds' < szs (es ++ [d1]), ?_, ?_⟩
        · rintro σ' H' ⟨vs', ds', pt', a1, a2, a3, a4, a5, a6, a7, a8⟩
          exact ⟨_, a8, vs', ds', pt', a1, a2, a3, a4, a5, a6, a7, rfl⟩
        · have hl : (ws ++ [x])[(ws ++ [x]).length - 1]? = some x := by simp
          have dl : (ws ++ [x]).dropLast = ws := by simp
          have t1 : TSame K H1 (upd H1 p (.lst ws)) := TSame.lst hH
          have hX1 : Dp K (upd H1 p (.lst ws)) x d1 := Dp.ts t1 d1 x n3 hX
          have hA1 : DpAll K (upd H1 p (.lst ws)) ws es := DpAll.ts t1 es ws n1 hA
          have sm1 : Same H (upd H1 p (.lst ws)) := Same.new sm hp
          refine ⟨_, rfl, .inl ⟨rfl, _, SqL.of hH⟩, p, ws ++ [x], x, rfl, rfl, hH, hl, ?_⟩
          rw [dl]
          refine ⟨_, rfl, _, _, rfl, Rb.Dp.ty hX1, _, _, rfl, rfl, ?_⟩
          cases d1 with
          | tuple fs =>
            refine ⟨_, rfl, ?_⟩
            show if decide ("tuple" = "tuple") = true then _ else _
            rw [if_pos (by decide)]
            cases hX1 with
            | @tup a xs _ hq ha =>
              have hle : ws.length + xs.length ≤ 4000 := by
                have l1 := Rb.DpAll.len hA
                have l2 := Rb.DpAll.len ha
                have := len_szs es
                have := len_szs fs
                have e3 : sz (.tuple fs) = szs fs + 1 := rfl
                omega
              have t2 : TSame K (upd H1 p (.lst ws)) (upd (upd H1 p (.lst ws)) p (.lst (ws ++ xs))) := TSame.lst upd_same
              refine ⟨_, rfl, .inl ⟨rfl, _, SqL.of upd_same⟩, _, rfl, p, a, ws, xs, rfl, rfl, upd_same, hq, ?_, ?_⟩
              · rw [sizeLine_eq]
                omega
              · refine ⟨ws ++ xs, es ++ fs, _, rfl, upd_same, Rb.DpAll.app (DpAll.ts t2 es ws n1 hA1) (DpAll.ts t2 fs xs n3 ha), ?_, ?_, ?_, Same.new sm1 hp, ?_⟩
                · rw [noLs_app, n1]
                  exact n3
                · rw [isVals_app]
                  exact hv'
                · rw [szs_app]
                  have e3 : sz (.tuple fs) = szs fs + 1 := rfl
                  omega
                · rw [szs_app, szs_app]
                  show _ < szs es + (szs fs + 1 + 0)
                  omega
          | none =>
            refine ⟨_, rfl, ?_⟩
            show if decide ("NoneType" = "tuple") = true then _ else _
            rw [if_neg (by decide)]
            cases hX1
            refine ⟨_, rfl, _, rfl, ?_⟩
            show if (!decide (V.non = V.non)) = true then _ else _
            rw [show (!decide (V.non = V.non)) = false by simp]
            rw [if_neg Bool.false_ne_true]
            refine ⟨ws, es, _, rfl, upd_same, hA1, n1, ?_, ?_, sm1, ?_⟩
            · rw [← hv']
              show _ = (isVals es && true)
              rw [Bool.and_true]
            · omega
            · rw [szs_app]
              show _ < szs es + (1 + 0)
              omega
          | int i =>
            refine ⟨_, rfl, ?_⟩
            show if decide ("int" = "tuple") = true then _ else _
            rw [if_neg (by decide)]
            cases hX1
            refine ⟨_, rfl, _, rfl, ?_⟩
            show if (!decide (V.int i = V.non)) = true then _ else _
            rw [show (!decide (V.int i = V.non)) = true by simp]
            rw [if_pos rfl]
            refine ⟨_, rfl, _, _, rfl, .int i, (by rw [sizeLine_eq]; show 2 ≤ _; omega), fun p2 hp2 => ⟨_, p2, ["int", "str"], rfl, rfl, SqT.of upd_same, by decide, by decide, _, rfl, ?_⟩⟩
            show if (!["int", "str"].contains "int") = true then _ else _
            rw [if_neg (by decide)]
            have sm2 : Same H (upd (upd H1 p (.lst ws)) p2 (.tup [.ty "int", .ty "str"])) := Same.new sm1 (sm1.free hp2)
            have ne2 : p2 ≠ p := fun e => by
              rw [e, upd_same] at hp2
              cases hp2
            refine ⟨ws, es, _, rfl, ?_, DpAll.ts (TSame.same (Same.new (Same.refl _) hp2)) es ws n1 hA1, n1, ?_, ?_, sm2, ?_⟩
            · rw [upd_ne (Ne.symm ne2)]
              exact upd_same
            · rw [← hv']
              show _ = (isVals es && true)
              rw [Bool.and_true]
            · omega
            · rw [szs_app]
              show _ < szs es + (1 + 0)
              omega
          | str x =>
            refine ⟨_, rfl, ?_⟩
            show if decide ("str" = "tuple") = true then _ else _
            rw [if_neg (by decide)]
            cases hX1
            refine ⟨_, rfl, _, rfl, ?_⟩
            show if (!decide (V.str x = V.non)) = true then _ else _
            rw [show (!decide (V.str x = V.non)) = true by simp]
            rw [if_pos rfl]
            refine ⟨_, rfl, _, _, rfl, .str x, (by rw [sizeLine_eq]; show 2 ≤ _; omega), fun p2 hp2 => ⟨_, p2, ["int", "str"], rfl, rfl, SqT.of upd_same, by decide, by decide, _, rfl, ?_⟩⟩
            show if (!["int", "str"].contains "str") = true then _ else _
            rw [if_neg (by decide)]
            have sm2 : Same H (upd (upd H1 p (.lst ws)) p2 (.tup [.ty "int", .ty "str"])) := Same.new sm1 (sm1.free hp2)
            have ne2 : p2 ≠ p := fun e => by
              rw [e, upd_same] at hp2
              cases hp2
            refine ⟨ws, es, _, rfl, ?_, DpAll.ts (TSame.same (Same.new (Same.refl _) hp2)) es ws n1 hA1, n1, ?_, ?_, sm2, ?_⟩
            · rw [upd_ne (Ne.symm ne2)]
              exact upd_same
            · rw [← hv']
              show _ = (isVals es && true)
              rw [Bool.and_true]
            · omega
            · rw [szs_app]
              show _ < szs es + (1 + 0)
              omega
          | bool b =>
            refine ⟨_, rfl, ?_⟩
            show if decide ("bool" = "tuple") = true then _ else _
            rw [if_neg (by decide)]
            cases hX1
            refine ⟨_, rfl, _, rfl, ?_⟩
            show if (!decide (V.bl b = V.non)) = true then _ else _
            rw [show (!decide (V.bl b = V.non)) = true by simp]
            rw [if_pos rfl]
            refine ⟨_, rfl, _, _, rfl, .bl b, (by rw [sizeLine_eq]; show 2 ≤ _; omega), fun p2 hp2 => ⟨_, p2, ["int", "str"], rfl, rfl, SqT.of upd_same, by decide, by decide, _, rfl, ?_⟩⟩
            show if (!["int", "str"].contains "bool") = true then _ else _
            rw [if_pos (by decide)]
            have sm2 : Same H (upd (upd H1 p (.lst ws)) p2 (.tup [.ty "int", .ty "str"])) := Same.new sm1 (sm1.free hp2)
            have e5 : isVal d = false := by
              rw [← hv']
              show (isVals es && false) = false
              rw [Bool.and_false]
            have kk := k _ sm2
            rw [e5] at kk
            exact kk
          | list _ => cases n3
          | dict _ => cases n3
end
end Rb
namespace Rb
open PySem PySem.Spec PyProof.Rows L2
/-! ### where a cell stands -/
def stIn (c f n : Int) : Bool := decide (f ≤ c) && decide (c < f + n)
def isReg (d c : Int) : Bool := stIn c (dbell d) 4
def isTw (d c : Int) : Bool := stIn c (tword d 0) 6
def mayR (role : Str) (d c : Int) : Bool := if role == "device" then isReg d c else stIn c (fcell d 0 0) 24 || (isReg d c || (isTw d c || decide (c = ackw d)))
def sp3b (g : Int → Int → Int → Bool) : Sp := fun vs H Q _ => ∃ a b c : Int, vs = [.int a, .int b, .int c] ∧ Q (.bl (g a b c)) H
def sp2b (g : Int → Int → Bool) : Sp := fun vs H Q _ => ∃ a b : Int, vs = [.int a, .int b] ∧ Q (.bl (g a b)) H
def spMayR : Sp := fun vs H Q _ => ∃ (r : Str) (a b : Int), vs = [.str r, .int a, .int b] ∧ Q (.bl (mayR r a b)) H
section
variable {P : Program} {w : World} {K : PySem.W.Frag} {mg : Str → Option Value} {base : Heap}
theorem ok_stands_in (T : Top K mg) : FnC P w K mg base CX0 1 (He.ga K "stands_in") (sp3b stIn) := by
  refine fnc0 T.d_stands_in sc_stands_in (fun _ _ _ _ _ _ us hl => match us, hl with | [_, _, _], _ => rfl) (fun vs H Q E h => ?_) (fun cdv A outer s H vs Q E hr h => ?_)
  · obtain ⟨a, b, c, rfl, _⟩ := h
    rfl
  · obtain ⟨a, b, c, rfl, k⟩ := h
    refine ⟨_, (pss_one (ps_ret (pe_chain op_le op_lt (pv 1) (pv 0) (pe_op op_add (pv 1) (pv 2))))), ?_⟩
    refine ⟨_, rfl, _, rfl, _, _, rfl, rfl, _, rfl, ?_⟩
    show if decide (b ≤ a) = true then _ else _
    by_cases e : b ≤ a
    · rw [if_pos (decide_eq_true e)]
      refine ⟨_, rfl, _, rfl, _, _, rfl, rfl, _, _, rfl, rfl, ?_⟩
      have q : stIn a b c = decide (a < b + c) := by
        unfold stIn
        rw [decide_eq_true e, Bool.true_and]
      rw [q] at k
      exact k
    · rw [if_neg (by rw [decide_eq_false e]; exact Bool.false_ne_true)]
      have q : stIn a b c = false := by
        unfold stIn
        rw [decide_eq_false e, Bool.false_and]
      rw [q] at k
      exact k
theorem ok_is_register (T : Top K mg) : FnC P w K mg base CX0 3 (He.ga K "is_register") (sp2b isReg) := by
  have G_stands_in := ok_stands_in (P := P) (w := w) (base := base) T
  have G_doorbell := ok_doorbell (P := P) (w := w) (base := base) T
  refine fnc0 T.d_is_register sc_is_register (fun _ _ _ _ _ _ us hl => match us, hl with | [_, _], _ => rfl) (fun vs H Q E h => ?_) (fun cdv A outer s H vs Q E hr h => ?_)
  · obtain ⟨a, b, rfl, _⟩ := h
    rfl
  · obtain ⟨a, b, rfl, k⟩ := h
    refine ⟨_, (pss_one (ps_ret (pe_f G_stands_in hr (by decide) (by rfl) T.g_stands_in pass0 (pa_cons (pv 1) (pa_cons (pe_f G_doorbell hr (by decide) (by rfl) T.g_doorbell pass0 (pa_cons (pv 0) pa_nil)) (pa_cons (pe_gc (by rfl) T.c_REGISTERS) pa_nil)))))), ?_⟩
    exact ⟨_, rfl, _, rfl, _, rfl, _, _, _, rfl, k⟩
theorem ok_is_table_word (T : Top K mg) : FnC P w K mg base CX0 4 (He.ga K "is_table_word") (sp2b isTw) := by
  have G_stands_in := ok_stands_in (P := P) (w := w) (base := base) T
  have G_table_word := ok_table_word (P := P) (w := w) (base := base) T
  refine fnc0 T.d_is_table_word sc_is_table_word (fun _ _ _ _ _ _ us hl => match us, hl with | [_, _], _ => rfl) (fun vs H Q E h => ?_) (fun cdv A outer s H vs Q E hr h => ?_)
  · obtain ⟨a, b, rfl, _⟩ := h
    rfl
  · obtain ⟨a, b, rfl, k⟩ := h
    refine ⟨_, (pss_one (ps_ret (pe_f G_stands_in hr (by decide) (by rfl) T.g_stands_in pass0 (pa_cons (pv 1) (pa_cons (pe_f G_table_word hr (by decide) (by rfl) T.g_table_word pass0 (pa_cons (pv 0) (pa_cons pe_int pa_nil))) (pa_cons (pe_gc (by rfl) T.c_PAGES) pa_nil)))))), ?_⟩
    exact ⟨_, rfl, _, rfl, _, _, rfl, _, _, _, rfl, k⟩
theorem ok_may_reach (T : Top K mg) : FnC P w K mg base CX0 5 (He.ga K "may_reach") spMayR := by
  have G_stands_in := ok_stands_in (P := P) (w := w) (base := base) T
  have G_frame_cell := ok_frame_cell (P := P) (w := w) (base := base) T
  have G_is_register := ok_is_register (P := P) (w := w) (base := base) T
  have G_is_table_word := ok_is_table_word (P := P) (w := w) (base := base) T
  have G_acknowledge := ok_acknowledge (P := P) (w := w) (base := base) T
  refine fnc0 T.d_may_reach sc_may_reach (fun _ _ _ _ _ _ us hl => match us, hl with | [_, _, _], _ => rfl) (fun vs H Q E h => ?_) (fun cdv A outer s H vs Q E hr h => ?_)
  · obtain ⟨r, a, b, rfl, _⟩ := h
    rfl
  · obtain ⟨r, a, b, rfl, k⟩ := h
    refine ⟨_, (pss_cons (ps_if (pt_cmpR op_eq (pv 0) pe_str (nomark _)) (pss_one (ps_ret (pe_f G_is_register hr (by decide) (by rfl) T.g_is_register pass0 (pa_cons (pv 1) (pa_cons (pv 2) pa_nil))))) pss_nil)
    (pss_cons (ps_set (i := 3) sc_may_reach.nd rfl (Or.inl rfl) (pe_f G_stands_in hr (by decide) (by rfl) T.g_stands_in pass0 (pa_cons (pv 2) (pa_cons (pe_f G_frame_cell hr (by decide) (by rfl) T.g_frame_cell pass0 (pa_cons (pv 1) (pa_cons pe_int (pa_cons pe_int pa_nil)))) (pa_cons (pe_op op_mul (pe_gc (by rfl) T.c_FRAMES) (pe_gc (by rfl) T.c_CELLS)) pa_nil)))))
    (pss_cons (ps_set (i := 4) sc_may_reach.nd rfl (Or.inl rfl) (pe_or (pe_f G_is_table_word hr (by decide) (by rfl) T.g_is_table_word pass0 (pa_cons (pv 1) (pa_cons (pv 2) pa_nil))) (pe_one (pe_cmpR op_eq (pv 2) (pe_f G_acknowledge hr (by decide) (by rfl) T.g_acknowledge pass0 (pa_cons (pv 1) pa_nil)) (nomark _)))))
    (pss_one (ps_ret (pe_or (pv 3) (pe_or (pe_f G_is_register hr (by decide) (by rfl) T.g_is_register pass0 (pa_cons (pv 1) (pa_cons (pv 2) pa_nil))) (pe_one (pv 4))))))))), ?_⟩
    refine ⟨_, rfl, rfl, _, rfl, ?_⟩
    show if decide (V.str r = V.str "device") = true then _ else _
    by_cases e : r = ("device" : Str)
    · have q : mayR r a b = isReg a b := by
        unfold mayR
        rw [if_pos (by rw [e]; exact beq_self_eq_true _)]
      rw [q] at k
      rw [if_pos (decide_eq_true (by rw [e]))]
      exact ⟨_, rfl, _, rfl, _, _, rfl, k⟩
    · have q : mayR r a b = (stIn b (fcell a 0 0) 24 || (isReg a b || (isTw a b || decide (b = ackw a)))) := by
        unfold mayR
        rw [if_neg (by rw [beq_iff_eq]; exact e)]
      rw [q] at k
      rw [if_neg (by rw [decide_eq_true_eq]; intro z; exact e (by injection z))]
      refine ⟨_, rfl, _, rfl, _, _, _, rfl, _, _, rfl, rfl, .inr ⟨by decide, by decide⟩, _, _, _, rfl, ?_⟩
      dsimp only [gName, tSeq, tAsg, tRet]
      refine (val_orV (a := isTw a b) (b := decide (b = ackw a)) ?_ ?_) _ ?_
      · exact fun Q q => ⟨_, rfl, _, rfl, _, _, rfl, q⟩
      · refine fun Q q => ⟨_, rfl, _, rfl, _, rfl, rfl, ?_⟩
        rw [dec_int]
        exact q
      · show tOrV _ _ _ _ _
        exact (val_orV (a := stIn b (fcell a 0 0) 24) (b := isReg a b || (isTw a b || decide (b = ackw a))) (fun Q q => ⟨_, rfl, q⟩)
          (val_orV (a := isReg a b) (b := isTw a b || decide (b = ackw a)) (fun Q q => ⟨_, rfl, _, rfl, _, _, rfl, q⟩) (fun Q q => ⟨_, rfl, q⟩))) _ k
end
end Rb
namespace Rb
open PySem PySem.Spec PyProof.Rows L2
/-! ### the parts of a request -/
def isNumD : PyData → Int → Bool
  | .int i, l => decide (0 ≤ i) && decide (i < l)
  | _, _ => false
theorem isNumD_of {K : PySem.W.Frag} {H : Hp} {v : V} {d : PyData} {l : Int} (h : Dp K H v d) : isNum v l = isNumD d l := by
  cases h <;> rfl
def isTupV : PyData → Bool
  | .tuple ds => isVals ds
  | _ => false
def lenD : PyData → Nat
  | .tuple ds => ds.length
  | _ => 0
def fitsD (k : Str) (d : PyData) : Bool :=
  if k == "page" then isNumD d 6 else if k == "index" then isNumD d 4 else if k == "block" then isNumD d 8 else if k == "value" then isVal d
  else if k == "values" then isTupV d && decide (lenD d = 4) else if k == "rows" then isTupV d else decide (tyOf d = "int")
def spTupV (K : PySem.W.Frag) : Sp := fun vs H Q _ => ∃ (v : V) (d : PyData), vs = [v] ∧ Dp K H v d ∧ noL d = true ∧ sz d ≤ 4000 ∧ ∀ H', Same H H' → Q (.bl (isTupV d)) H'
def spFits (K : PySem.W.Frag) : Sp := fun vs H Q _ => ∃ (k : Str) (v : V) (d : PyData), vs = [.str k, v] ∧ Dp K H v d ∧ noL d = true ∧ sz d ≤ 4000 ∧ ∀ H', Same H H' → Q (.bl (fitsD k d)) H'
section
variable {P : Program} {w : World} {K : PySem.W.Frag} {mg : Str → Option Value} {base : Heap}
theorem ok_is_tuple_of_values (T : Top K mg) : FnC P w K mg base CX0 2 (He.ga K "is_tuple_of_values") (spTupV K) := by
  have G_is_value := ok_is_value (P := P) (w := w) (base := base) T
  refine fnc0 T.d_is_tuple_of_values sc_is_tuple_of_values (fun _ _ _ _ _ _ us hl => match us, hl with | [_], _ => rfl) (fun vs H Q E h => ?_) (fun cdv A outer s H vs Q E hr h => ?_)
  · obtain ⟨v, d, rfl, _⟩ := h
    rfl
  · obtain ⟨v, d, rfl, hd, nl, hz, k⟩ := h
    refine ⟨_, (pss_one (ps_ret (pe_and (pe_cmpR op_isTyB (pe_callTy call_type1 (by rfl) T.b_type (by decide +kernel) (pa_cons (pv 0) pa_nil)) (pe_bltn (v := .ty "tuple") (by rfl) T.b_tuple (by decide +kernel) rfl) (nomark _)) (pe_one (pe_f G_is_value hr (by decide) (by rfl) T.g_is_value pass0 (pa_cons (pv 0) pa_nil)))))), ?_⟩
    refine ⟨_, rfl, _, _, rfl, Rb.Dp.ty hd, _, _, rfl, rfl, _, rfl, ?_⟩
    show if decide (tyOf d = "tuple") = true then _ else _
    by_cases e : tyOf d = "tuple"
    · rw [if_pos (decide_eq_true e)]
      refine ⟨_, rfl, v, d, rfl, hd, nl, hz, fun H' s => ?_⟩
      have kk := k H' s
      cases d with
      | tuple ds => exact kk
      | _ => simp [tyOf] at e
    · rw [if_neg (by rw [decide_eq_false e]; exact Bool.false_ne_true)]
      have kk := k H (Same.refl H)
      cases d with
      | tuple ds => exact absurd rfl e
      | _ => exact kk
theorem Dp.len {H : Hp} {v : V} {d : PyData} (h : Dp K H v d) (e : tyOf d = "tuple") : ∃ a xs, v = .ref a ∧ SqT K H a xs ∧ xs.length = lenD d := by
  cases h with
  | tup hs ha => exact ⟨_, _, rfl, hs, Rb.DpAll.len ha⟩
  | _ => simp [tyOf] at e
theorem dec_s {i j : Str} : decide (V.str i = V.str j) = (i == j) := by
  rw [Bool.eq_iff_iff]
  simp
theorem ok_fits (T : Top K mg) : FnC P w K mg base CX0 3 (He.ga K "fits") (spFits K) := by
  have G_is_number := ok_is_number (P := P) (w := w) (base := base) T
  have G_is_value := ok_is_value (P := P) (w := w) (base := base) T
  have G_is_tuple_of_values := ok_is_tuple_of_values (P := P) (w := w) (base := base) T
  have G_is_integer := ok_is_integer (P := P) (w := w) (base := base) T
  refine fnc0 T.d_fits sc_fits (fun _ _ _ _ _ _ us hl => match us, hl with | [_, _], _ => rfl) (fun vs H Q E h => ?_) (fun cdv A outer s H vs Q E hr h => ?_)
  · obtain ⟨kd, v, d, rfl, _⟩ := h
    rfl
  · obtain ⟨kd, v, d, rfl, hd, nl, hz, k⟩ := h
    have k0 := k H (Same.refl H)
    refine ⟨_, (pss_cons (ps_if (pt_cmpR op_eq (pv 0) pe_str (nomark _)) (pss_one (ps_ret (pe_f G_is_number hr (by decide) (by rfl) T.g_is_number pass0 (pa_cons (pv 1) (pa_cons (pe_gc (by rfl) T.c_PAGES) pa_nil))))) pss_nil)
    (pss_cons (ps_if (pt_cmpR op_eq (pv 0) pe_str (nomark _)) (pss_one (ps_ret (pe_f G_is_number hr (by decide) (by rfl) T.g_is_number pass0 (pa_cons (pv 1) (pa_cons (pe_gc (by rfl) T.c_CELLS) pa_nil))))) pss_nil)
    (pss_cons (ps_if (pt_cmpR op_eq (pv 0) pe_str (nomark _)) (pss_one (ps_ret (pe_f G_is_number hr (by decide) (by rfl) T.g_is_number pass0 (pa_cons (pv 1) (pa_cons (pe_gc (by rfl) T.c_BLOCKS) pa_nil))))) pss_nil)
    (pss_cons (ps_if (pt_cmpR op_eq (pv 0) pe_str (nomark _)) (pss_one (ps_ret (pe_f G_is_value hr (by decide) (by rfl) T.g_is_value pass0 (pa_cons (pv 1) pa_nil)))) pss_nil)
    (pss_cons (ps_if (pt_cmpR op_eq (pv 0) pe_str (nomark _)) (pss_one (ps_ret (pe_and (pe_f G_is_tuple_of_values hr (by decide) (by rfl) T.g_is_tuple_of_values pass0 (pa_cons (pv 1) pa_nil)) (pe_one (pe_cmpR op_eq (pe_callB call_len_seq (by rfl) T.b_len PySem.boot_len (pa_cons (pv 1) pa_nil)) (pe_gc (by rfl) T.c_CELLS) (nomark _)))))) pss_nil)
    (pss_cons (ps_if (pt_cmpR op_eq (pv 0) pe_str (nomark _)) (pss_one (ps_ret (pe_f G_is_tuple_of_values hr (by decide) (by rfl) T.g_is_tuple_of_values pass0 (pa_cons (pv 1) pa_nil)))) pss_nil)
    (pss_one (ps_ret (pe_f G_is_integer hr (by decide) (by rfl) T.g_is_integer pass0 (pa_cons (pv 1) pa_nil)))))))))), ?_⟩
    unfold fitsD at k k0
    refine ⟨_, rfl, rfl, _, rfl, ?_⟩
    show if decide (V.str kd = V.str "page") = true then _ else _
    rw [dec_s]
    cases e1 : kd == ("page" : Str) with
    | true =>
      rw [if_pos rfl]
      rw [if_pos e1, ← isNumD_of hd] at k0
      exact ⟨_, rfl, v, _, _, rfl, Rb.Dp.ty hd, k0⟩
    | false =>
    rw [if_neg Bool.false_ne_true]
    rw [if_neg (by rw [e1]; exact Bool.false_ne_true)] at k k0
    refine ⟨_, rfl, rfl, _, rfl, ?_⟩
    show if decide (V.str kd = V.str "index") = true then _ else _
    rw [dec_s]
    cases e2 : kd == ("index" : Str) with
    | true =>
      rw [if_pos rfl]
      rw [if_pos e2, ← isNumD_of hd] at k0
      exact ⟨_, rfl, v, _, _, rfl, Rb.Dp.ty hd, k0⟩
    | false =>
    rw [if_neg Bool.false_ne_true]
    rw [if_neg (by rw [e2]; exact Bool.false_ne_true)] at k k0
    refine ⟨_, rfl, rfl, _, rfl, ?_⟩
    show if decide (V.str kd = V.str "block") = true then _ else _
    rw [dec_s]
    cases e3 : kd == ("block" : Str) with
    | true =>
      rw [if_pos rfl]
      rw [if_pos e3, ← isNumD_of hd] at k0
      exact ⟨_, rfl, v, _, _, rfl, Rb.Dp.ty hd, k0⟩
    | false =>
    rw [if_neg Bool.false_ne_true]
    rw [if_neg (by rw [e3]; exact Bool.false_ne_true)] at k k0
    refine ⟨_, rfl, rfl, _, rfl, ?_⟩
    show if decide (V.str kd = V.str "value") = true then _ else _
    rw [dec_s]
    cases e4 : kd == ("value" : Str) with
    | true =>
      rw [if_pos rfl]
      rw [if_pos e4] at k
      exact ⟨_, rfl, v, d, rfl, hd, nl, hz, k⟩
    | false =>
    rw [if_neg Bool.false_ne_true]
    rw [if_neg (by rw [e4]; exact Bool.false_ne_true)] at k k0
    refine ⟨_, rfl, rfl, _, rfl, ?_⟩
    show if decide (V.str kd = V.str "values") = true then _ else _
    rw [dec_s]
    cases e5 : kd == ("values" : Str) with
    | true =>
      rw [if_pos rfl]
      rw [if_pos e5] at k
      refine ⟨_, rfl, v, d, rfl, hd, nl, hz, fun H' s => ⟨_, rfl, ?_⟩⟩
      have kk := k H' s
      by_cases e6 : isTupV d = true
      · rw [if_pos e6]
        rw [e6, Bool.true_and] at kk
        have ty : tyOf d = "tuple" := by
          cases d with
          | tuple ds => rfl
          | _ => simp [isTupV] at e6
        obtain ⟨a, xs, rfl, hq, hl⟩ := Rb.Dp.len (Dp.ts (TSame.same s) d v nl hd) ty
        refine ⟨_, rfl, a, xs, rfl, .inr hq, rfl, ?_⟩
        rw [dec_int]
        have e7 : ((xs.length : Int) == 4) = decide (lenD d = 4) := by
          rw [Bool.eq_iff_iff, beq_iff_eq, decide_eq_true_eq, hl]
          omega
        rw [e7]
        exact kk
      · rw [if_neg e6]
        rw [Bool.not_eq_true] at e6
        rw [e6, Bool.false_and] at kk
        exact kk
    | false =>
    rw [if_neg Bool.false_ne_true]
    rw [if_neg (by rw [e5]; exact Bool.false_ne_true)] at k k0
    refine ⟨_, rfl, rfl, _, rfl, ?_⟩
    show if decide (V.str kd = V.str "rows") = true then _ else _
    rw [dec_s]
    cases e6 : kd == ("rows" : Str) with
    | true =>
      rw [if_pos rfl]
      rw [if_pos e6] at k
      exact ⟨_, rfl, v, d, rfl, hd, nl, hz, k⟩
    | false =>
    rw [if_neg Bool.false_ne_true]
    rw [if_neg (by rw [e6]; exact Bool.false_ne_true)] at k0
    exact ⟨_, rfl, v, _, rfl, Rb.Dp.ty hd, k0⟩
end
end Rb
namespace Rb
open PySem PySem.Spec PyProof.Rows L2
/-! ### actors, words, forms -/
def spActor (K : PySem.W.Frag) : Sp := fun vs H Q _ => ∃ (a : Addr) (r : Str) (i : Int), vs = [.ref a] ∧ SqT K H a [.str r, .int i] ∧ Q (.bl (isNum (.int i) 2)) H
def spWord (K : PySem.W.Frag) : Sp := fun vs H Q _ => ∃ v : V, vs = [v] ∧ ((v = .non ∧ Q (.bl true) H) ∨
  ∃ (a : Addr) (i : Int) (r : Str), v = .ref a ∧ SqT K H a [.int i, .str r] ∧ Q (.bl (isNum (.int i) 6 && inV (.str r) [.str "r", .str "w"])) H)
section
variable {P : Program} {w : World} {K : PySem.W.Frag} {mg : Str → Option Value} {base : Heap}
theorem ok_is_actor (T : Top K mg) : FnC P w K mg base CX0 3 (He.ga K "is_actor") (spActor K) := by
  have G_is_number := ok_is_number (P := P) (w := w) (base := base) T
  refine fnc0 T.d_is_actor sc_is_actor (fun _ _ _ _ _ _ us hl => match us, hl with | [_], _ => rfl) (fun vs H Q E h => ?_) (fun cdv A outer s H vs Q E hr h => ?_)
  · obtain ⟨a, r, i, rfl, _⟩ := h
    rfl
  · obtain ⟨a, r, i, rfl, hq, k⟩ := h
    refine ⟨_, (pss_cons (ps_if (PW.pt (pw_or (pt_cmpR op_notTyB (pe_callTy call_type1 (by rfl) T.b_type (by decide +kernel) (pa_cons (pv 0) pa_nil)) (pe_bltn (v := .ty "tuple") (by rfl) T.b_tuple (by decide +kernel) rfl) (nomark _)) (pw_or1 (pt_cmpR op_ne (pe_callB call_len_seq (by rfl) T.b_len PySem.boot_len (pa_cons (pv 0) pa_nil)) pe_int (nomark _))))) (pss_one (ps_ret pe_bl)) pss_nil)
    (pss_cons (ps_asg (pv 0) (pg_tup rfl (pgs_cons (pg_name (i := 1) sc_is_actor.nd rfl (Or.inl rfl)) (pgs_cons (pg_name (i := 2) sc_is_actor.nd rfl (Or.inl rfl)) pgs_nil))))
    (pss_one (ps_ret (pe_and (pe_cmpR op_isTyB (pe_callTy call_type1 (by rfl) T.b_type (by decide +kernel) (pa_cons (pv 1) pa_nil)) (pe_bltn (v := .ty "str") (by rfl) T.b_str (by decide +kernel) rfl) (nomark _)) (pe_one (pe_f G_is_number hr (by decide) (by rfl) T.g_is_number pass0 (pa_cons (pv 2) (pa_cons (pe_gc (by rfl) T.c_DEVICES) pa_nil))))))))), ?_⟩
    refine ⟨_, rfl, _, _, rfl, .tup hq, _, _, rfl, rfl, _, rfl, ?_⟩
    show if (!decide ("tuple" = "tuple")) = true then _ else _
    rw [if_neg (by decide)]
    refine ⟨_, rfl, a, _, rfl, .inr hq, rfl, _, rfl, ?_⟩
    show if (!decide (V.int (([V.str r, V.int i].length : Nat) : Int) = V.int 2)) = true then _ else _
    rw [if_neg (by simp)]
    refine ⟨_, rfl, a, _, rfl, hq, rfl, _, _, rfl, _, _, rfl, rfl, ?_⟩
    refine ⟨_, rfl, _, _, rfl, .str r, _, _, rfl, rfl, _, rfl, ?_⟩
    show if decide ("str" = "str") = true then _ else _
    rw [if_pos (by decide)]
    exact ⟨_, rfl, .int i, _, _, rfl, .int i, k⟩
theorem ok_is_word (T : Top K mg) : FnC P w K mg base CX0 3 (He.ga K "is_word") (spWord K) := by
  have G_is_number := ok_is_number (P := P) (w := w) (base := base) T
  refine fnc0 T.d_is_word sc_is_word (fun _ _ _ _ _ _ us hl => match us, hl with | [_], _ => rfl) (fun vs H Q E h => ?_) (fun cdv A outer s H vs Q E hr h => ?_)
  · obtain ⟨v, rfl, _⟩ := h
    rfl
  · obtain ⟨v, rfl, h⟩ := h
    refine ⟨_, (pss_cons (ps_if (pt_cmp (pc_isN (pv 0))) (pss_one (ps_ret pe_bl)) pss_nil)
    (pss_cons (ps_if (PW.pt (pw_or (pt_cmpR op_notTyB (pe_callTy call_type1 (by rfl) T.b_type (by decide +kernel) (pa_cons (pv 0) pa_nil)) (pe_bltn (v := .ty "tuple") (by rfl) T.b_tuple (by decide +kernel) rfl) (nomark _)) (pw_or1 (pt_cmpR op_ne (pe_callB call_len_seq (by rfl) T.b_len PySem.boot_len (pa_cons (pv 0) pa_nil)) pe_int (nomark _))))) (pss_one (ps_ret pe_bl)) pss_nil)
    (pss_cons (ps_asg (pv 0) (pg_tup rfl (pgs_cons (pg_name (i := 1) sc_is_word.nd rfl (Or.inl rfl)) (pgs_cons (pg_name (i := 2) sc_is_word.nd rfl (Or.inl rfl)) pgs_nil))))
    (pss_one (ps_ret (pe_and (pe_f G_is_number hr (by decide) (by rfl) T.g_is_number pass0 (pa_cons (pv 1) (pa_cons (pe_gc (by rfl) T.c_FRAMES) pa_nil))) (pe_and (pe_cmpR op_isTyB (pe_callTy call_type1 (by rfl) T.b_type (by decide +kernel) (pa_cons (pv 2) pa_nil)) (pe_bltn (v := .ty "str") (by rfl) T.b_str (by decide +kernel) rfl) (nomark _)) (pe_one (pe_cmpR op_in_seq (pv 2) (pe_gc (by rfl) T.c_RIGHTS) rfl))))))))), ?_⟩
    rcases h with ⟨rfl, k⟩ | ⟨a, i, r, rfl, hq, k⟩
    · refine ⟨_, rfl, _, rfl, ?_⟩
      show if decide (V.non = V.non) = true then _ else _
      rw [if_pos (by decide)]
      exact k
    · refine ⟨_, rfl, _, rfl, ?_⟩
      show if decide (V.ref a = V.non) = true then _ else _
      rw [if_neg (by simp)]
      refine ⟨_, rfl, _, _, rfl, .tup hq, _, _, rfl, rfl, _, rfl, ?_⟩
      show if (!decide ("tuple" = "tuple")) = true then _ else _
      rw [if_neg (by decide)]
      refine ⟨_, rfl, a, _, rfl, .inr hq, rfl, _, rfl, ?_⟩
      show if (!decide (V.int (([V.int i, V.str r].length : Nat) : Int) = V.int 2)) = true then _ else _
      rw [if_neg (by simp)]
      refine ⟨_, rfl, a, _, rfl, hq, rfl, _, _, rfl, _, _, rfl, rfl, ?_⟩
      refine ⟨_, rfl, .int i, _, _, rfl, .int i, _, rfl, ?_⟩
      cases e : isNum (.int i) 6 with
      | false =>
        rw [e] at k
        exact k
      | true =>
        rw [e] at k
        refine ⟨_, rfl, _, _, rfl, .str r, _, _, rfl, rfl, _, rfl, ?_⟩
        show if decide ("str" = "str") = true then _ else _
        rw [if_pos (by decide)]
        exact ⟨_, rfl, _, _, rfl, .inr (T.t_RIGHTS H), rfl, rfl, k⟩
end
end Rb
namespace Rb
open PySem PySem.Spec PyProof.Rows L2
/-! ### the form of a request -/
def formsL : List (Str × List Str × List Str) := [
  ("read", ["driver", "device"], ["integer"]), ("write", ["driver", "device"], ["integer", "value"]),
  ("dma read", ["device"], ["page", "index"]), ("dma write", ["device"], ["page", "index", "value"]),
  ("command", ["driver"], ["page"]), ("drop", ["guard"], []), ("fetch", ["device"], ["block", "integer", "integer"]),
  ("commit", ["device"], ["block", "values", "integer", "integer"]), ("journal", ["driver"], []), ("tell", ["device"], ["rows"])]
theorem forms_ok {K : PySem.W.Frag} {mg : Str → Option Value} (T : Top K mg) : ∀ f ∈ formsL, Form K "FORMS" f.1 f.2.1 f.2.2 := by
  intro f hf
  simp only [formsL, List.mem_cons, List.not_mem_nil, or_false] at hf
  rcases hf with rfl | rfl | rfl | rfl | rfl | rfl | rfl | rfl | rfl | rfl
  · exact T.fo_FORMS__read
  · exact T.fo_FORMS__write
  · exact T.fo_FORMS__dma_read
  · exact T.fo_FORMS__dma_write
  · exact T.fo_FORMS__command
  · exact T.fo_FORMS__drop
  · exact T.fo_FORMS__fetch
  · exact T.fo_FORMS__commit
  · exact T.fo_FORMS__journal
  · exact T.fo_FORMS__tell
def hasF (role : Str) (rs ks : List Str) (ds : List PyData) : Bool := inV (.str role) (rs.map V.str) && (decide (ds.length = ks.length) && (List.zipWith fitsD ks ds).all id)
theorem flat_strs : ∀ rs : List Str, (rs.map V.str).all flatV = true
  | [] => rfl
  | r :: rs => by
    show (true && (rs.map V.str).all flatV) = true
    rw [flat_strs rs]
    rfl
theorem dpAll_get {K : PySem.W.Frag} {H : Hp} : ∀ {vs : List V} {ds : List PyData} {i : Nat} {v : V}, DpAll K H vs ds → vs[i]? = some v → ∃ d, ds[i]? = some d ∧ Dp K H v d
  | _, _, _, _, .nil, e => by simp at e
  | _, _, 0, _, .cons h _, e => by
    simp at e
    subst e
    exact ⟨_, rfl, h⟩
  | _, _, i + 1, v, .cons _ t, e => by
    obtain ⟨d, a, b⟩ := dpAll_get (i := i) (v := v) t (by simpa using e)
    exact ⟨d, by simpa using a, b⟩
theorem noLs_get : ∀ {ds : List PyData} {i : Nat} {d : PyData}, noLs ds = true → ds[i]? = some d → noL d = true
  | [], _, _, _, e => by simp at e
  | x :: xs, 0, d, h, e => by
    simp at e
    subst e
    exact (and2 (show (noL x && noLs xs) = true from h)).1
  | x :: xs, i + 1, d, h, e => noLs_get (i := i) (and2 (show (noL x && noLs xs) = true from h)).2 (by simpa using e)
theorem szs_get : ∀ {ds : List PyData} {i : Nat} {d : PyData}, ds[i]? = some d → sz d ≤ szs ds
  | [], _, _, e => by simp at e
  | x :: xs, 0, d, e => by
    simp at e
    subst e
    show sz x ≤ sz x + szs xs
    omega
  | x :: xs, i + 1, d, e => by
    have := szs_get (ds := xs) (i := i) (d := d) (by simpa using e)
    show sz d ≤ sz x + szs xs
    omega
def spHasForm (K : PySem.W.Frag) : Sp := fun vs H Q _ => ∃ (role : Str) (q : Addr) (w : Str) (rs ks : List Str) (xs : List V) (ds : List PyData), vs = [.str role, .ref q] ∧ SqT K H q (.str w :: xs) ∧ DpAll K H xs ds ∧ noLs ds = true ∧ szs ds ≤ 4000 ∧
  (w, rs, ks) ∈ formsL ∧ ∀ H', Same H H' → Q (.bl (hasF role rs ks ds)) H'
section
variable {P : Program} {w : World} {K : PySem.W.Frag} {mg : Str → Option Value} {base : Heap}
theorem ok_has_form (T : Top K mg) (TB : ∃ es n, KDict K w (He.ga K "FORMS") es n) : FnC P w K mg base CX0 4 (He.ga K "has_form") (spHasForm K) := by
  have G_fits := ok_fits (P := P) (w := w) (base := base) T
  refine fnc0 T.d_has_form sc_has_form (fun _ _ _ _ _ _ us hl => match us, hl with | [_, _], _ => rfl) (fun vs H Q E h => ?_) (fun cdv A outer s H vs Q E hr h => ?_)
  · obtain ⟨role, q, wd, rs, ks, xs, ds, rfl, _⟩ := h
    rfl
  · obtain ⟨role, q, wd, rs, ks, xs, ds, rfl, hq, hD, hn, hs, hf, k⟩ := h
    have F : Form K "FORMS" wd rs ks := forms_ok T _ hf
    refine ⟨_, (pss_cons (ps_if (PW.pt (pw_or (pt_cmpR op_notTyB (pe_callTy call_type1 (by rfl) T.b_type (by decide +kernel) (pa_cons (pv 1) pa_nil)) (pe_bltn (v := .ty "tuple") (by rfl) T.b_tuple (by decide +kernel) rfl) (nomark _)) (pw_or1 (pt_not (pt_truth (pv 1) (fun _ => rfl)))))) (pss_one (ps_ret pe_bl)) pss_nil)
    (pss_cons (ps_asg (pv 1) (pg_star (n := 1) rfl (pgs_cons (pg_name (i := 2) sc_has_form.nd rfl (Or.inl rfl)) (pgs_cons (pg_name (i := 3) sc_has_form.nd rfl (Or.inl rfl)) pgs_nil))))
    (pss_cons (ps_if (PW.pt (pw_or (pt_cmpR op_notTyB (pe_callTy call_type1 (by rfl) T.b_type (by decide +kernel) (pa_cons (pv 2) pa_nil)) (pe_bltn (v := .ty "str") (by rfl) T.b_str (by decide +kernel) rfl) (nomark _)) (pw_or1 (pt_cmpR (op_notIn_form TB) (pv 2) (pe_gc (by rfl) T.c_FORMS) rfl)))) (pss_one (ps_ret pe_bl)) pss_nil)
    (pss_cons (ps_asg (pe_ix (ix_form TB) (pe_gc (by rfl) T.c_FORMS) (pv 2) (fun _ _ => rfl)) (pg_tup rfl (pgs_cons (pg_name (i := 4) sc_has_form.nd rfl (Or.inl rfl)) (pgs_cons (pg_name (i := 5) sc_has_form.nd rfl (Or.inl rfl)) pgs_nil))))
    (pss_cons (ps_if (PW.pt (pw_or (pt_cmpR op_notIn_seq (pv 0) (pv 4) rfl) (pw_or1 (pt_cmpR op_ne (pe_callB call_len_seq (by rfl) T.b_len PySem.boot_len (pa_cons (pv 3) pa_nil)) (pe_callB call_len_seq (by rfl) T.b_len PySem.boot_len (pa_cons (pv 5) pa_nil)) (nomark _))))) (pss_one (ps_ret pe_bl)) pss_nil)
    (pss_one (ps_ret (pe_callB (cr_all rfl) (by rfl) T.b_all (by decide +kernel) (pa_cons (pe_lc (own := [("kind", 6), ("part", 7)]) (g := gTup K 2 (gCons (gName 6) (gCons (gName 7) (gNil)))) (tt := tYes) rfl sc_has_form.nd (pi_zipM (by rfl) T.b_zip (pa_cons (pv 5) (pa_cons (pv 3) pa_nil))) (blkOk_by (N := ["role", "request", "word", "parts", "roles", "kinds", "kind", "part"]) (sc := defScope s_has_form) (by decide +kernel)) (fun _ _ _ _ _ => (pg_tupK (K := K) (n := 2) rfl rfl (pgs_cons (pg_name (i := 6) sc_has_form.nd rfl (Or.inl rfl)) (pgs_cons (pg_name (i := 7) sc_has_form.nd rfl (Or.inl rfl)) pgs_nil)))) (fun _ _ _ _ _ => pts_nil) (fun _ _ _ _ _ => (pe_f G_fits hr (by decide) (by rfl) T.g_fits pass0 (pa_cons (pv 6) (pa_cons (pv 7) pa_nil))))) pa_nil))))))))), ?_⟩
    refine ⟨_, rfl, _, _, rfl, .tup hq, _, _, rfl, rfl, _, rfl, ?_⟩
    show if (!decide ("tuple" = "tuple")) = true then _ else _
    rw [if_neg (by decide)]
    refine ⟨_, rfl, true, .inr (.inl ⟨_, hq, rfl⟩), ?_⟩
    refine ⟨_, rfl, q, _, rfl, hq, (by show 1 ≤ xs.length + 1; omega), fun pd hpd => ⟨_, _, rfl, _, _, rfl, rfl, ?_⟩⟩
    have s1 : Same H (upd H pd (.lst xs)) := Same.new (Same.refl H) hpd
    refine ⟨_, rfl, _, _, rfl, .str wd, _, _, rfl, rfl, _, rfl, ?_⟩
    show if (!decide ("str" = "str")) = true then _ else _
    rw [if_neg (by decide)]
    refine ⟨_, rfl, wd, rs, ks, rfl, rfl, F, _, rfl, ?_⟩
    refine ⟨_, rfl, wd, rs, ks, rfl, rfl, F, _, _, rfl, F.pair _, rfl, _, _, rfl, _, _, rfl, rfl, ?_⟩
    refine ⟨_, rfl, _, rfl, _, _, rfl, .inr (F.fst _), rfl, flat_strs rs, _, rfl, ?_⟩
    show if (!inV (V.str role) (rs.map V.str)) = true then _ else _
    cases e1 : inV (V.str role) (rs.map V.str) with
    | false =>
      rw [if_pos (show (!false) = true from rfl)]
      have kk := k _ s1
      unfold hasF at kk
      rw [e1, Bool.false_and] at kk
      exact kk
    | true =>
    rw [if_neg (by decide)]
    refine ⟨_, rfl, pd, xs, rfl, .inl (SqL.of upd_same), _, rfl, _, _, rfl, .inr (F.snd _), rfl, _, rfl, ?_⟩
    show if (!decide (V.int ((xs.length : Nat) : Int) = V.int (((ks.map V.str).length : Nat) : Int))) = true then _ else _
    have el := Rb.DpAll.len hD
    by_cases e2 : ds.length = ks.length
    · have e3 : (!decide (V.int ((xs.length : Nat) : Int) = V.int (((ks.map V.str).length : Nat) : Int))) = false := by
        rw [el, e2, List.length_map, decide_eq_true rfl]
        rfl
      rw [e3, if_neg Bool.false_ne_true]
      have e4 : (ks.map V.str).length = xs.length := by rw [List.length_map, el, e2]
      have hD1 : DpAll K (upd H pd (.lst xs)) xs ds := DpAll.ts (TSame.same s1) ds xs hn hD
      refine ⟨_, rfl, _, rfl, _, pd, _, xs, rfl, F.snd _, SqL.of upd_same, fun D hDn => ?_⟩
      refine lc_zipM e4 (fun i H2 => H2 D = some (.lst (((List.zipWith fitsD ks ds).take i).map V.bl)) ∧ Same (upd H pd (.lst xs)) H2) ?_ ?_ ?_ ?_
      · exact ⟨upd_same, Same.new (Same.refl _) hDn⟩
      · rintro i H2 ⟨_, s2⟩
        exact ⟨F.snd _, SqL.of (s2 _ _ upd_same)⟩
      · rintro i x y Tu H2 hx hy ⟨hL, s2⟩ hT
        obtain ⟨kd, hkd, rfl⟩ : ∃ kd, ks[i]? = some kd ∧ x = V.str kd := by
          rw [List.getElem?_map] at hx
          cases e : ks[i]? with
          | none =>
            rw [e] at hx
            cases hx
          | some kd =>
            rw [e] at hx
            exact ⟨kd, rfl, (Option.some.inj hx).symm⟩
        obtain ⟨d, hd, hdp⟩ := dpAll_get hD1 hy
        have s3 : Same H2 (upd H2 Tu (.tup [V.str kd, y])) := Same.new (Same.refl _) hT
        have s4 : Same (upd H pd (.lst xs)) (upd H2 Tu (.tup [V.str kd, y])) := Same.trans s2 s3
        refine ⟨Tu, _, rfl, SqT.of upd_same, rfl, _, _, rfl, _, _, rfl, rfl, rfl, ?_⟩
        refine ⟨_, rfl, _, rfl, kd, y, d, rfl, Dp.ts (TSame.same s4) d y (noLs_get hn hd) hdp, noLs_get hn hd, Nat.le_trans (szs_get hd) hs, fun H3 s5 => ⟨_, s5 _ _ (s3 _ _ hL), ?_, ?_, ?_⟩⟩
        · rw [sizeLine_eq, List.length_map, List.length_take]
          have := len_szs ds
          have := (List.length_zipWith (f := fitsD) (l₁ := ks) (l₂ := ds))
          omega
        · rw [upd_same]
          have hz : (List.zipWith fitsD ks ds)[i]? = some (fitsD kd d) := by
            rw [List.getElem?_zipWith, hkd, hd]
          rw [List.take_add_one, hz, List.map_append]
          rfl
        · exact Same.new (Same.trans s4 s5) hDn
      · rintro H2 ⟨hL, s2⟩
        refine ⟨D, List.zipWith fitsD ks ds, rfl, SqL.of ?_, ?_⟩
        · rw [hL, List.take_of_length_le]
          rw [List.length_zipWith, List.length_map]
          omega
        · have kk := k H2 (Same.trans s1 s2)
          unfold hasF at kk
          rw [e1, decide_eq_true e2, Bool.true_and, Bool.true_and] at kk
          exact kk
    · have e3 : (!decide (V.int ((xs.length : Nat) : Int) = V.int (((ks.map V.str).length : Nat) : Int))) = true := by
        rw [el, List.length_map, decide_eq_false (fun z => e2 (by injection z with z; omega))]
        rfl
      rw [e3, if_pos rfl]
      have kk := k _ s1
      unfold hasF at kk
      rw [e1, decide_eq_false e2, Bool.false_and, Bool.true_and] at kk
      exact kk
end
end Rb
namespace Rb
open PySem PySem.Spec PyProof.Rows L2
/-! ### what is allowed -/
def cellOf : List PyData → Int
  | .int c :: _ => c
  | _ => 0
def valOf : List PyData → PyData
  | _ :: d :: _ => d
  | _ => .none
def isWordD : PyData → Bool
  | .none => true
  | .tuple [.int i, .str r] => isNum (.int i) 6 && inV (.str r) [.str "r", .str "w"]
  | _ => false
def wordForm (d : PyData) : Prop := d = .none ∨ ∃ i r, d = .tuple [.int i, .str r]
def allowB (role : Str) (dev : Int) (wd : Str) (rs ks : List Str) (ds : List PyData) : Bool :=
  isNum (.int dev) 2 && (hasF role rs ks ds && (if inV (.str wd) [.str "read", .str "write"] then
    mayR role dev (cellOf ds) && (if wd == "write" && isTw dev (cellOf ds) then isWordD (valOf ds) else true) else true))
def spAllowed (K : PySem.W.Frag) : Sp := fun vs H Q _ => ∃ (a : Addr) (role : Str) (dev : Int) (q : Addr) (wd : Str) (rs ks : List Str) (xs : List V) (ds : List PyData), vs = [.ref a, .ref q] ∧ SqT K H a [.str role, .int dev] ∧
  SqT K H q (.str wd :: xs) ∧ DpAll K H xs ds ∧ noLs ds = true ∧ szs ds ≤ 4000 ∧ (wd, rs, ks) ∈ formsL ∧ (wd = "write" → isTw dev (cellOf ds) = true → wordForm (valOf ds)) ∧
  ∀ H', Same H H' → Q (.bl (allowB role dev wd rs ks ds)) H'
theorem int_of {K : PySem.W.Frag} {H : Hp} {v : V} {d : PyData} (h : Dp K H v d) (e : tyOf d = "int") : ∃ c, v = .int c ∧ d = .int c := by
  cases h with
  | int i => exact ⟨i, rfl, rfl⟩
  | _ => simp [tyOf] at e
theorem rw_form {wd : Str} {rs ks : List Str} (hf : (wd, rs, ks) ∈ formsL) (h : inV (.str wd) [.str "read", .str "write"] = true) :
    (wd = "read" ∧ ks = (["integer"] : List Str)) ∨ (wd = "write" ∧ ks = (["integer", "value"] : List Str)) := by
  simp only [formsL, List.mem_cons, Prod.mk.injEq, List.not_mem_nil, or_false] at hf
  rcases hf with ⟨rfl, rfl, rfl⟩ | ⟨rfl, rfl, rfl⟩ | ⟨rfl, rfl, rfl⟩ | ⟨rfl, rfl, rfl⟩ | ⟨rfl, rfl, rfl⟩ | ⟨rfl, rfl, rfl⟩ | ⟨rfl, rfl, rfl⟩ | ⟨rfl, rfl, rfl⟩ | ⟨rfl, rfl, rfl⟩ | ⟨rfl, rfl, rfl⟩
  · exact .inl ⟨rfl, rfl⟩
  · exact .inr ⟨rfl, rfl⟩
  all_goals exact absurd h (by decide)
/-- a read's or a write's parts -/
theorem rw_parts {K : PySem.W.Frag} {H : Hp} {role wd : Str} {rs ks : List Str} {xs : List V} {ds : List PyData} (hD : DpAll K H xs ds) (hf : (wd, rs, ks) ∈ formsL)
    (h : inV (.str wd) [.str "read", .str "write"] = true) (g : hasF role rs ks ds = true) : ∃ c ys, xs = .int c :: ys ∧ cellOf ds = c ∧ (wd = "write" → ∃ v d, ys = [v] ∧ valOf ds = d ∧ Dp K H v d) := by
  unfold hasF at g
  obtain ⟨_, g⟩ := and2 g
  obtain ⟨g1, g2⟩ := and2 g
  have g1 := of_decide_eq_true g1
  rcases rw_form hf h with ⟨rfl, rfl⟩ | ⟨rfl, rfl⟩
  · cases hD with
    | nil => cases g1
    | cons h1 t1 =>
      cases t1 with
      | cons _ _ => simp at g1
      | nil =>
        obtain ⟨g3, _⟩ := and2 (show (fitsD "integer" _ && true) = true from g2)
        obtain ⟨c, rfl, rfl⟩ := int_of h1 (of_decide_eq_true (show decide (tyOf _ = "int") = true from g3))
        exact ⟨c, [], rfl, rfl, fun e => absurd e (by decide)⟩
  · cases hD with
    | nil => cases g1
    | cons h1 t1 =>
      cases t1 with
      | nil => simp at g1
      | cons h2 t2 =>
        cases t2 with
        | cons _ _ => simp at g1
        | nil =>
          obtain ⟨g3, _⟩ := and2 (show (fitsD "integer" _ && _) = true from g2)
          obtain ⟨c, rfl, rfl⟩ := int_of h1 (of_decide_eq_true (show decide (tyOf _ = "int") = true from g3))
          exact ⟨c, _, rfl, rfl, fun _ => ⟨_, _, rfl, rfl, h2⟩⟩
section
variable {P : Program} {w : World} {K : PySem.W.Frag} {mg : Str → Option Value} {base : Heap}
theorem ok_is_allowed (T : Top K mg) (TB : ∃ es n, KDict K w (He.ga K "FORMS") es n) : FnC P w K mg base CX0 6 (He.ga K "is_allowed") (spAllowed K) := by
  have G_is_actor := ok_is_actor (P := P) (w := w) (base := base) T
  have G_has_form := ok_has_form (P := P) (w := w) (base := base) T TB
  have G_may_reach := ok_may_reach (P := P) (w := w) (base := base) T
  have G_is_table_word := ok_is_table_word (P := P) (w := w) (base := base) T
  have G_is_word := ok_is_word (P := P) (w := w) (base := base) T
  refine fnc0 T.d_is_allowed sc_is_allowed (fun _ _ _ _ _ _ us hl => match us, hl with | [_, _], _ => rfl) (fun vs H Q E h => ?_) (fun cdv A outer s H vs Q E hr h => ?_)
  · obtain ⟨a, role, dev, q, wd, rs, ks, xs, ds, rfl, _⟩ := h
    rfl
  · obtain ⟨a, role, dev, q, wd, rs, ks, xs, ds, rfl, hqa, hq, hD, hn, hs, hf, hw, k⟩ := h
    refine ⟨_, (pss_cons (ps_if (pt_not (pt_val (pe_f G_is_actor hr (by decide) (by rfl) T.g_is_actor pass0 (pa_cons (pv 0) pa_nil)))) (pss_one (ps_ret pe_bl)) pss_nil)
    (pss_cons (ps_asg (pv 0) (pg_tup rfl (pgs_cons (pg_name (i := 2) sc_is_allowed.nd rfl (Or.inl rfl)) (pgs_cons (pg_name (i := 3) sc_is_allowed.nd rfl (Or.inl rfl)) pgs_nil))))
    (pss_cons (ps_if (pt_not (pt_val (pe_f G_has_form hr (by decide) (by rfl) T.g_has_form pass0 (pa_cons (pv 2) (pa_cons (pv 1) pa_nil))))) (pss_one (ps_ret pe_bl)) pss_nil)
    (pss_cons (ps_if (pt_cmpR op_notIn_seq (pe_ix ix_tup (pv 1) pe_int (fun _ _ => rfl)) (pe_tup (pa_cons pe_str (pa_cons pe_str pa_nil))) rfl) (pss_one (ps_ret pe_bl)) pss_nil)
    (pss_cons (ps_set (i := 4) sc_is_allowed.nd rfl (Or.inl rfl) (pe_ix ix_tup (pv 1) pe_int (fun _ _ => rfl)))
    (pss_cons (ps_if (pt_not (pt_val (pe_f G_may_reach hr (by decide) (by rfl) T.g_may_reach pass0 (pa_cons (pv 2) (pa_cons (pv 3) (pa_cons (pv 4) pa_nil)))))) (pss_one (ps_ret pe_bl)) pss_nil)
    (pss_cons (ps_if (PW.pt (pw_and (pt_cmpR op_eq (pe_ix ix_tup (pv 1) pe_int (fun _ _ => rfl)) pe_str (nomark _)) (pw_and1 (pt_val (pe_f G_is_table_word hr (by decide) (by rfl) T.g_is_table_word pass0 (pa_cons (pv 3) (pa_cons (pv 4) pa_nil))))))) (pss_one (ps_ret (pe_f G_is_word hr (by decide) (by rfl) T.g_is_word pass0 (pa_cons (pe_ix ix_tup (pv 1) pe_int (fun _ _ => rfl)) pa_nil)))) pss_nil)
    (pss_one (ps_ret pe_bl))))))))), ?_⟩
    unfold allowB at k
    refine ⟨_, rfl, a, role, dev, rfl, hqa, _, rfl, ?_⟩
    cases e1 : isNum (.int dev) 2 with
    | false =>
      have kk := k H (Same.refl H)
      rw [e1, Bool.false_and] at kk
      exact kk
    | true =>
    refine ⟨_, rfl, a, _, rfl, hqa, rfl, _, _, rfl, _, _, rfl, rfl, ?_⟩
    refine ⟨_, rfl, _, rfl, role, q, wd, rs, ks, xs, ds, rfl, hq, hD, hn, hs, hf, fun H1 s1 => ⟨_, rfl, ?_⟩⟩
    cases e2 : hasF role rs ks ds with
    | false =>
      have kk := k H1 s1
      rw [e1, e2, Bool.false_and, Bool.and_false] at kk
      exact kk
    | true =>
    have hq1 : SqT K H1 q (.str wd :: xs) := TSame.same s1 _ _ hq
    refine ⟨_, rfl, q, _, 0, _, rfl, rfl, hq1, atI_n (j := 0) rfl, (by rw [sizeLine_eq]; show 2 ≤ _; omega), fun p2 hp2 => ⟨p2, _, rfl, .inr (SqT.of upd_same), rfl, rfl, _, rfl, ?_⟩⟩
    have s2 : Same H (upd H1 p2 (.tup [.str "read", .str "write"])) := Same.new s1 (s1.free hp2)
    have t2 : TSame K H1 (upd H1 p2 (.tup [.str "read", .str "write"])) := TSame.same (Same.new (Same.refl _) hp2)
    show if (!inV (V.str wd) [V.str "read", V.str "write"]) = true then _ else _
    cases e3 : inV (V.str wd) [V.str "read", V.str "write"] with
    | false =>
      rw [if_pos (show (!false) = true from rfl)]
      have kk := k _ s2
      rw [e1, e2, e3, if_neg Bool.false_ne_true] at kk
      exact kk
    | true =>
    rw [if_neg (by decide)]
    obtain ⟨c, ys, rfl, ec, hv⟩ := rw_parts hD hf e3 e2
    have hq2 : SqT K (upd H1 p2 (.tup [.str "read", .str "write"])) q (.str wd :: .int c :: ys) := t2 _ _ hq1
    refine ⟨_, rfl, q, _, 1, _, rfl, rfl, hq2, atI_n (j := 1) rfl, ?_⟩
    refine ⟨_, rfl, _, rfl, _, rfl, role, dev, c, rfl, _, rfl, ?_⟩
    have kk := k _ s2
    rw [e1, e2, e3, if_pos rfl, ec, Bool.true_and, Bool.true_and] at kk
    cases e4 : mayR role dev c with
    | false =>
      rw [e4, Bool.false_and] at kk
      exact kk
    | true =>
    rw [e4, Bool.true_and] at kk
    refine ⟨_, rfl, q, _, 0, _, rfl, rfl, hq2, atI_n (j := 0) rfl, rfl, _, rfl, ?_⟩
    show if decide (V.str wd = V.str "write") = true then _ else _
    rw [dec_s]
    cases e5 : wd == ("write" : Str) with
    | false =>
      rw [if_neg Bool.false_ne_true]
      rw [e5, Bool.false_and, if_neg Bool.false_ne_true] at kk
      exact kk
    | true =>
    rw [if_pos rfl]
    rw [e5, Bool.true_and] at kk
    refine ⟨_, rfl, _, rfl, dev, c, rfl, _, rfl, ?_⟩
    cases e6 : isTw dev c with
    | false =>
      rw [e6, if_neg Bool.false_ne_true] at kk
      exact kk
    | true =>
    rw [e6, if_pos rfl] at kk
    have ew : wd = "write" := eq_of_beq e5
    obtain ⟨v, d, rfl, ed, hdp⟩ := hv ew
    have wf := hw ew (by rw [ec]; exact e6)
    rw [ed] at wf kk
    refine ⟨_, rfl, q, _, 2, v, rfl, rfl, hq2, atI_n (j := 2) rfl, v, rfl, ?_⟩
    rcases wf with rfl | ⟨i, r, rfl⟩
    · cases hdp
      exact .inl ⟨rfl, kk⟩
    · cases hdp with
      | tup hs3 ha3 =>
        cases ha3 with
        | cons h1 t1 =>
          cases t1 with
          | cons h2 t3 =>
            cases t3
            cases h1
            cases h2
            exact .inr ⟨_, i, r, rfl, TSame.same s2 _ _ hs3, kk⟩
end
end Rb
namespace Rb
open PySem PySem.Spec PyProof.Rows L2
/-! ### what a guard does -/
/-- the entries behind a use -/
def useE (E : List (Key × V)) (p : Int) (wv : V) : List (Key × V) := if valV E (Sum.inl p) = none ∧ wv ≠ .non then putK E (Sum.inl p) wv else E
def spUse (K : PySem.W.Frag) : Sp := fun vs H Q _ => ∃ (L : GL) (G : GS) (p : Int) (r : Str) (wv : V), vs = [.ref L.g, .int p, .str r, wv] ∧ GuardAt (CG K) L H G ∧ L.all.Nodup ∧ G.ents.length < 4000 ∧
  (((valV G.ents (Sum.inl p)).getD wv = .non ∧ Q .non H) ∨ ∃ (t : Addr) (f : Int) (r' : Str), (valV G.ents (Sum.inl p)).getD wv = .ref t ∧ SqT K H t [.int f, .str r'] ∧
    ∀ H', GuardAt (CG K) L H' { G with ents := useE G.ents p wv } → (∀ b, b ∉ L.all → H' b = H b) → Q (if r' = r then .int f else .non) H')
theorem GuardAt.ents {C : Addr} {L : GL} {H : Hp} {G : GS} {e : List (Key × V)} (h : GuardAt C L H G) (n : L.all.Nodup) : GuardAt C L (upd H L.e (.dK e)) { G with ents := e } := by
  simp only [GL.all, List.nodup_cons, List.mem_cons, List.not_mem_nil, or_false, not_or] at n
  obtain ⟨⟨d1, d2, d3⟩, ⟨g1, g2⟩, e1, _⟩ := n
  exact ⟨(upd_ne g1).trans h.og, (upd_ne d2).trans h.od, upd_same, (upd_ne (Ne.symm e1)).trans h.oq⟩
theorem GuardAt.que {C : Addr} {L : GL} {H : Hp} {G : GS} {e : List V} (h : GuardAt C L H G) (n : L.all.Nodup) : GuardAt C L (upd H L.q (.lst e)) { G with que := e } := by
  simp only [GL.all, List.nodup_cons, List.mem_cons, List.not_mem_nil, or_false, not_or] at n
  obtain ⟨⟨d1, d2, d3⟩, ⟨g1, g2⟩, e1, _⟩ := n
  exact ⟨(upd_ne g2).trans h.og, (upd_ne d3).trans h.od, (upd_ne e1).trans h.oe, upd_same⟩
theorem GuardAt.tix {C : Addr} {L : GL} {H : Hp} {G : GS} {t : Int} (h : GuardAt C L H G) (n : L.all.Nodup) : GuardAt C L (upd H L.g (.ins C L.d (gFld L.e L.q t))) { G with tix := t } := by
  simp only [GL.all, List.nodup_cons, List.mem_cons, List.not_mem_nil, or_false, not_or] at n
  obtain ⟨⟨d1, d2, d3⟩, ⟨g1, g2⟩, e1, _⟩ := n
  exact ⟨upd_same, (upd_ne d1).trans h.od, (upd_ne (Ne.symm g1)).trans h.oe, (upd_ne (Ne.symm g2)).trans h.oq⟩
theorem GuardAt.tup {C : Addr} {L : GL} {H : Hp} {G : GS} {t : Addr} {o : HO} (h : GuardAt C L H G) (ht : H t = none) : GuardAt C L (upd H t o) G :=
  ⟨(upd_ne (ne_of_none h.og ht)).trans h.og, (upd_ne (ne_of_none h.od ht)).trans h.od, (upd_ne (ne_of_none h.oe ht)).trans h.oe, (upd_ne (ne_of_none h.oq ht)).trans h.oq⟩
section
variable {P : Program} {w : World} {K : PySem.W.Frag} {mg : Str → Option Value} {base : Heap}
theorem ok_use (T : Top K mg) : FnC P w K mg base CX0 1 (He.ma K (He.ga K "Guard") "use") (spUse K) := by
  refine fnc0 T.d_Guard_use sc_Guard_use (fun _ _ _ _ _ _ us hl => match us, hl with | [_, _, _, _], _ => rfl) (fun vs H Q E h => ?_) (fun cdv A outer s H vs Q E hr h => ?_)
  · obtain ⟨L, G, p, r, wv, rfl, _⟩ := h
    rfl
  · obtain ⟨L, G, p, r, wv, rfl, hG, nd, hl, h⟩ := h
    have hu := hu_of hr
    refine ⟨_, (pss_cons (ps_if (PW.pt (pw_and (pt_cmp (pc_dnotin hu (pv 1) (pe_fld (pv 0) rfl))) (pw_and1 (pt_cmp (pc_notN (pv 3)))))) (pss_one (ps_dput hu (pe_fld (pv 0) rfl) (pv 1) (pv 3) rfl)) pss_nil)
    (pss_cons (ps_set (i := 4) sc_Guard_use.nd rfl (Or.inl rfl) (pe_dget1 hu (pe_fld (pv 0) rfl) (pv 1) ⟨rfl, rfl, rfl, rfl⟩))
    (pss_cons (ps_if (pt_cmp (pc_isN (pv 4))) (pss_one (ps_ret pe_non)) pss_nil)
    (pss_cons (ps_asg (pv 4) (pg_tup rfl (pgs_cons (pg_name (i := 5) sc_Guard_use.nd rfl (Or.inl rfl)) (pgs_cons (pg_name (i := 6) sc_Guard_use.nd rfl (Or.inl rfl)) pgs_nil))))
    (pss_one (ps_ret (pe_ifExp (pt_cmpR op_eq (pv 6) (pv 2) (nomark _)) (pv 5) pe_non))))))), ?_⟩
    refine ⟨_, rfl, _, rfl, L.g, CG K, L.d, _, _, rfl, hG.og, T.cl_Guard, T.na_Guard__entries, lk_e, L.e, _, rfl, DGet.k (k := Sum.inl p) hG.oe, _, rfl, ?_⟩
    cases e1 : valV G.ents (Sum.inl p) with
    | some v0 =>
      rw [e1] at h
      have e2 : useE G.ents p wv = G.ents := by
        unfold useE
        rw [if_neg (fun z => by rw [e1] at z; cases z.1)]
      refine ⟨_, rfl, L.g, CG K, L.d, _, _, rfl, hG.og, T.cl_Guard, T.na_Guard__entries, lk_e, L.e, rfl, .inl ⟨_, .inl hG.oe⟩, _, rfl, _, DGet.k (k := Sum.inl p) hG.oe, ?_⟩
      rw [e1]
      refine ⟨_, rfl, _, rfl, ?_⟩
      show if decide (v0 = V.non) = true then _ else _
      rcases h with ⟨ev, k⟩ | ⟨t, f, r', ev, hq, k⟩
      · rw [if_pos (decide_eq_true (show v0 = V.non from ev))]
        exact k
      · have ev' : v0 = V.ref t := ev
        subst ev'
        rw [if_neg (by simp)]
        refine ⟨_, rfl, t, _, rfl, hq, rfl, _, _, rfl, _, _, rfl, rfl, ?_⟩
        refine ⟨_, rfl, _, rfl, rfl, _, rfl, ?_⟩
        have kk := k H (by rw [e2]; exact hG) fun _ _ => rfl
        by_cases e3 : r' = r
        · rw [if_pos e3] at kk
          show if decide (V.str r' = V.str r) = true then _ else _
          rw [if_pos (decide_eq_true (by rw [e3]))]
          exact ⟨_, rfl, kk⟩
        · rw [if_neg e3] at kk
          show if decide (V.str r' = V.str r) = true then _ else _
          rw [if_neg (by rw [decide_eq_true_eq]; intro z; exact e3 (by injection z))]
          exact kk
    | none =>
      rw [e1] at h
      refine ⟨_, rfl, _, rfl, ?_⟩
      show if (!decide (wv = V.non)) = true then _ else _
      by_cases e2 : wv = .non
      · subst e2
        rw [if_neg (by simp)]
        rcases h with ⟨_, k⟩ | ⟨t, f, r', ev, hq, k⟩
        · refine ⟨_, rfl, L.g, CG K, L.d, _, _, rfl, hG.og, T.cl_Guard, T.na_Guard__entries, lk_e, L.e, rfl, .inl ⟨_, .inl hG.oe⟩, _, rfl, _, DGet.k (k := Sum.inl p) hG.oe, ?_⟩
          rw [e1]
          refine ⟨_, rfl, _, rfl, ?_⟩
          show if decide (V.non = V.non) = true then _ else _
          rw [if_pos (by decide)]
          exact k
        · cases ev
      · rw [if_pos (by rw [decide_eq_false e2]; rfl)]
        rcases h with ⟨ev, _⟩ | ⟨t, f, r', ev, hq, k⟩
        · exact absurd ev e2
        · have ev' : wv = V.ref t := ev
          subst ev'
          have e3 : useE G.ents p (.ref t) = putK G.ents (Sum.inl p) (.ref t) := by
            unfold useE
            rw [if_pos ⟨e1, e2⟩]
          have hG1 := hG.ents (e := putK G.ents (Sum.inl p) (.ref t)) nd
          have ne : ∀ b, b ∉ L.all → upd H L.e (.dK (putK G.ents (Sum.inl p) (.ref t))) b = H b := fun b hb => upd_ne fun z => hb (by rw [z]; simp [GL.all])
          have hq1 : SqT K (upd H L.e (.dK (putK G.ents (Sum.inl p) (.ref t)))) t [.int f, .str r'] :=
            TSame.upd (fun xs z => by rw [hG.oe] at z; cases z) (fun ob xs z => by rw [hG.oe] at z; cases z) _ _ hq
          refine ⟨_, rfl, _, rfl, L.g, CG K, L.d, _, _, rfl, hG.og, T.cl_Guard, T.na_Guard__entries, lk_e, _, rfl, L.e, _, rfl, DPut.k (k := Sum.inl p) hG.oe (by rw [sizeLine_eq]; omega), ?_⟩
          refine ⟨_, rfl, L.g, CG K, L.d, _, _, rfl, hG1.og, T.cl_Guard, T.na_Guard__entries, lk_e, L.e, rfl, .inl ⟨_, .inl hG1.oe⟩, _, rfl, _, DGet.k (k := Sum.inl p) hG1.oe, ?_⟩
          have e4 : valV (putK G.ents (Sum.inl p) (.ref t)) (Sum.inl p) = some (.ref t) := by
            rw [valV_put, if_pos rfl]
          rw [e4]
          refine ⟨_, rfl, _, rfl, ?_⟩
          show if decide (V.ref t = V.non) = true then _ else _
          rw [if_neg (by simp)]
          refine ⟨_, rfl, t, _, rfl, hq1, rfl, _, _, rfl, _, _, rfl, rfl, ?_⟩
          refine ⟨_, rfl, _, rfl, rfl, _, rfl, ?_⟩
          have kk := k _ (by rw [e3]; exact hG1) ne
          by_cases e5 : r' = r
          · rw [if_pos e5] at kk
            show if decide (V.str r' = V.str r) = true then _ else _
            rw [if_pos (decide_eq_true (by rw [e5]))]
            exact ⟨_, rfl, kk⟩
          · rw [if_neg e5] at kk
            show if decide (V.str r' = V.str r) = true then _ else _
            rw [if_neg (by rw [decide_eq_true_eq]; intro z; exact e5 (by injection z))]
            exact kk
end
end Rb
namespace Rb
open PySem PySem.Spec PyProof.Rows L2
def spCommand (K : PySem.W.Frag) : Sp := fun vs H Q _ => ∃ (L : GL) (G : GS) (p : Int), vs = [.ref L.g, .int p] ∧ GuardAt (CG K) L H G ∧ L.all.Nodup ∧ G.que.length < 4000 ∧
  ∀ (t : Addr) H', H t = none → GuardAt (CG K) L H' { G with que := G.que ++ [.ref t], tix := G.tix + 1 } → H' t = some (.tup [.int p, .int (G.tix + 1)]) → (∀ b, b ∉ L.all → b ≠ t → H' b = H b) → Q (.int (G.tix + 1)) H'
def spDrop (K : PySem.W.Frag) : Sp := fun vs H Q _ => ∃ (L : GL) (G : GS), vs = [.ref L.g] ∧ GuardAt (CG K) L H G ∧ L.all.Nodup ∧
  ((G.que = [] ∧ Q .non H) ∨ ∃ (t : Addr) (p n : Int) (r : List V), G.que = .ref t :: r ∧ SqT K H t [.int p, .int n] ∧
    ∀ H', GuardAt (CG K) L H' { G with que := r, ents := dropK G.ents (Sum.inl p) } → (∀ b, b ∉ L.all → H' b = H b) → Q (.int n) H')
theorem gFld_put {e q : Addr} {n m : Int} : putF ("_tickets" : Str) (.int m) (gFld e q n) = gFld e q m := zp (i := 2) (by decide +kernel) rfl
theorem dropK_none {kvs : List (Key × V)} {k : Key} (h : valV kvs k = none) : dropK kvs k = kvs := by
  unfold dropK
  rw [List.filter_eq_self]
  intro a ha
  have := valV_not h
  rw [decide_eq_true_eq]
  intro z
  exact this (by rw [← z]; exact List.mem_map.mpr ⟨a, ha, rfl⟩)
theorem six0 {n : Nat} : seqIndex? 0 (n + 1) = some 0 := by
  simp [seqIndex?]
section
variable {P : Program} {w : World} {K : PySem.W.Frag} {mg : Str → Option Value} {base : Heap}
theorem ok_command (T : Top K mg) : FnC P w K mg base CX0 1 (He.ma K (He.ga K "Guard") "command") (spCommand K) := by
  refine fnc0 T.d_Guard_command sc_Guard_command (fun _ _ _ _ _ _ us hl => match us, hl with | [_, _], _ => rfl) (fun vs H Q E h => ?_) (fun cdv A outer s H vs Q E hr h => ?_)
  · obtain ⟨L, G, p, rfl, _⟩ := h
    rfl
  · obtain ⟨L, G, p, rfl, hG, nd, hl, k⟩ := h
    refine ⟨_, (pss_cons (ps_fldaug (pv 0) pe_int in_add)
    (pss_cons (ps_expr (pe_bm PySem.F.plainAttrs_list PySem.F.slot_list_append PySem.F.type_list_append mt_append (pe_fld (pv 0) rfl) (pa_cons (pe_tup (pa_cons (pv 1) (pa_cons (pe_fld (pv 0) rfl) pa_nil))) pa_nil)))
    (pss_one (ps_ret (pe_fld (pv 0) rfl))))), ?_⟩
    have hG1 := hG.tix (t := G.tix + 1) nd
    refine ⟨_, rfl, L.g, CG K, L.d, _, _, rfl, hG.og, T.cl_Guard, T.na_Guard__tickets, lk_t, _, _, rfl, rfl, _, _, hG.og, (by show 3 < 1000; omega), ?_⟩
    rw [gFld_put]
    refine ⟨_, rfl, L.g, CG K, L.d, _, _, rfl, hG1.og, T.cl_Guard, T.na_Guard__queue, lk_q, .inl ⟨rfl, _, SqL.of hG1.oq⟩, _, rfl, _, rfl, L.g, CG K, L.d, _, _, rfl, hG1.og, T.cl_Guard, T.na_Guard__tickets, lk_t, (by rw [sizeLine_eq]; show 2 ≤ _; omega), fun t ht => ?_⟩
    have ht0 : H t = none := (free_upd ht).2
    have hG2 := hG1.tup (o := .tup [.int p, .int (G.tix + 1)]) ht
    have hG3 := hG2.que (e := G.que ++ [.ref t]) nd
    refine ⟨L.q, _, _, rfl, rfl, hG2.oq, (by rw [sizeLine_eq]; show G.que.length < _; omega), ?_⟩
    refine ⟨_, rfl, L.g, CG K, L.d, _, _, rfl, hG3.og, T.cl_Guard, T.na_Guard__tickets, lk_t, ?_⟩
    refine k t _ ht0 hG3 ?_ ?_
    · rw [upd_ne (fun z => by rw [z] at ht; exact absurd ht (some_ne hG1.oq)), upd_same]
    · intro b hb hbt
      rw [upd_ne (fun z => hb (by rw [z]; simp [GL.all])), upd_ne hbt, upd_ne (fun z => hb (by rw [z]; simp [GL.all]))]
theorem ok_drop (T : Top K mg) : FnC P w K mg base CX0 1 (He.ma K (He.ga K "Guard") "drop") (spDrop K) := by
  refine fnc0 T.d_Guard_drop sc_Guard_drop (fun _ _ _ _ _ _ us hl => match us, hl with | [_], _ => rfl) (fun vs H Q E h => ?_) (fun cdv A outer s H vs Q E hr h => ?_)
  · obtain ⟨L, G, rfl, _⟩ := h
    rfl
  · obtain ⟨L, G, rfl, hG, nd, h⟩ := h
    have hu := hu_of hr
    refine ⟨_, (pss_cons (ps_if (pt_not (pt_truth (pe_fld (pv 0) rfl) (fun _ => rfl))) (pss_one (ps_ret pe_non)) pss_nil)
    (pss_cons (ps_asg (pe_bm PySem.F.plainAttrs_list PySem.F.slot_list_pop PySem.F.type_list_pop mt_popAt (pe_fld (pv 0) rfl) (pa_cons pe_int pa_nil)) (pg_tup rfl (pgs_cons (pg_name (i := 1) sc_Guard_drop.nd rfl (Or.inl rfl)) (pgs_cons (pg_name (i := 2) sc_Guard_drop.nd rfl (Or.inl rfl)) pgs_nil))))
    (pss_cons (ps_expr (pe_dpop2 (pe_fld (pv 0) rfl) (pv 1) pe_non ⟨rfl, rfl, rfl, rfl⟩))
    (pss_one (ps_ret (pv 2)))))), ?_⟩
    refine ⟨_, rfl, L.g, CG K, L.d, _, _, rfl, hG.og, T.cl_Guard, T.na_Guard__queue, lk_q, !G.que.isEmpty, .inl ⟨_, SqL.of hG.oq, rfl⟩, ?_⟩
    rcases h with ⟨e, k⟩ | ⟨t, p, n, r, e, hq, k⟩
    · rw [e]
      exact k
    · rw [e]
      have hq0 : H L.q = some (.lst (.ref t :: r)) := by rw [hG.oq, e]
      have hG1 := hG.que (e := r) nd
      have hq1 : SqT K (upd H L.q (.lst r)) t [.int p, .int n] := TSame.lst hG.oq _ _ hq
      refine ⟨_, rfl, L.g, CG K, L.d, _, _, rfl, hG.og, T.cl_Guard, T.na_Guard__queue, lk_q, .inl ⟨rfl, _, SqL.of hG.oq⟩, L.q, _, 0, 0, _, rfl, rfl, hq0, by decide, by decide, six0, rfl, ?_⟩
      refine ⟨t, _, rfl, hq1, rfl, _, _, rfl, _, _, rfl, rfl, ?_⟩
      have hG2 := hG1.ents (e := dropK G.ents (Sum.inl p)) nd
      refine ⟨_, rfl, L.g, CG K, L.d, _, _, rfl, hG1.og, T.cl_Guard, T.na_Guard__entries, lk_e, L.e, rfl, .inl ⟨_, .inl hG1.oe⟩, _, rfl, _, Sum.inl p, hG1.oe, rfl, fun v hv => ?_, fun hv => ?_⟩
      · refine ⟨_, rfl, k _ hG2 fun b hb => ?_⟩
        rw [upd_ne (fun z => hb (by rw [z]; simp [GL.all])), upd_ne (fun z => hb (by rw [z]; simp [GL.all]))]
      · refine ⟨_, rfl, k _ ?_ fun b hb => ?_⟩
        · rw [dropK_none hv]
          exact hG1
        · exact upd_ne (fun z => hb (by rw [z]; simp [GL.all]))
end
end Rb
namespace Rb
open PySem PySem.Spec PyProof.Rows L2
/-! ### a memory that changes in one place -/
def setG (g : Nat → GS) (d : Nat) (x : GS) : Nat → GS := fun i => if i = d then x else g i
theorem setG_same {g : Nat → GS} {d : Nat} {x : GS} : setG g d x d = x := if_pos rfl
theorem setG_ne {g : Nat → GS} {d i : Nat} {x : GS} (h : i ≠ d) : setG g d x i = g i := if_neg h
/-- the other parts of a memory are apart from a guard's -/
structure Apart (L : ML) (S : List Addr) : Prop where
  m : L.m ∉ S
  d : L.d ∉ S
  aG : L.aG ∉ S
  aC : L.aC ∉ S
  aB : L.aB ∉ S
  b0 : L.bl 0 ∉ S
  b1 : L.bl 1 ∉ S
  aJ : L.aJ ∉ S
  aL : L.aL ∉ S
theorem ML.apart {L : ML} {d : Nat} (hd : d < 2) (n : L.all.Nodup) : Apart L (L.gs d).all ∧ (L.gs d).all.Nodup ∧ ∀ i, i < 2 → i ≠ d → ∀ b ∈ (L.gs i).all, b ∉ (L.gs d).all := by
  unfold ML.all at n
  rw [List.nodup_append, List.nodup_append, List.nodup_append] at n
  obtain ⟨⟨⟨_, n0, h0⟩, n1, h1⟩, _, h2⟩ := n
  have a0 : ∀ x ∈ [L.m, L.d, L.aG], x ∉ (L.gs 0).all := fun x hx z => h0 x hx x z rfl
  have a1 : ∀ x ∈ [L.m, L.d, L.aG], x ∉ (L.gs 1).all := fun x hx z => h1 x (List.mem_append_left _ hx) x z rfl
  have c0 : ∀ x ∈ [L.aC, L.aB, L.bl 0, L.bl 1, L.aJ, L.aL], x ∉ (L.gs 0).all := fun x hx z => h2 x (List.mem_append_left _ (List.mem_append_right _ z)) x hx rfl
  have c1 : ∀ x ∈ [L.aC, L.aB, L.bl 0, L.bl 1, L.aJ, L.aL], x ∉ (L.gs 1).all := fun x hx z => h2 x (List.mem_append_right _ z) x hx rfl
  have g01 : ∀ x ∈ (L.gs 0).all, x ∉ (L.gs 1).all := fun x hx z => h1 x (List.mem_append_right _ hx) x z rfl
  rcases lt2 hd with rfl | rfl
  · refine ⟨⟨a0 _ (by simp), a0 _ (by simp), a0 _ (by simp), c0 _ (by simp), c0 _ (by simp), c0 _ (by simp), c0 _ (by simp), c0 _ (by simp), c0 _ (by simp)⟩, n0, fun i hi ne b hb => ?_⟩
    rcases lt2 hi with rfl | rfl
    · exact absurd rfl ne
    · exact fun z => g01 b z hb
  · refine ⟨⟨a1 _ (by simp), a1 _ (by simp), a1 _ (by simp), c1 _ (by simp), c1 _ (by simp), c1 _ (by simp), c1 _ (by simp), c1 _ (by simp), c1 _ (by simp)⟩, n1, fun i hi ne b hb => ?_⟩
    rcases lt2 hi with rfl | rfl
    · exact g01 b hb
    · exact absurd rfl ne
/-- one guard changes -/
theorem MemAt.guard {Cm Cg : Addr} {L : ML} {H H' : Hp} {M : MS} {d : Nat} {G : GS} (h : MemAt Cm Cg L H M) (hd : d < 2) (hG : GuardAt Cg (L.gs d) H' G) (k : ∀ b ∈ L.all, b ∉ (L.gs d).all → H' b = H b) : MemAt Cm Cg L H' { M with gs := setG M.gs d G } := by
  obtain ⟨A, _, B⟩ := ML.apart hd h.nd
  refine ⟨(k _ (by simp [ML.all]) A.m).trans h.om, (k _ (by simp [ML.all]) A.d).trans h.od, (k _ (by simp [ML.all]) A.aG).trans h.og, (k _ (by simp [ML.all]) A.aC).trans h.oc, (k _ (by simp [ML.all]) A.aB).trans h.ob, fun i hi => ?_,
    (k _ (by simp [ML.all]) A.aJ).trans h.oj, (k _ (by simp [ML.all]) A.aL).trans h.ol, fun i hi => ?_, h.nd⟩
  · refine (k _ (ML.in_b hi) ?_).trans (h.obl i hi)
    rcases lt2 hi with rfl | rfl
    · exact A.b0
    · exact A.b1
  · by_cases e : i = d
    · subst e
      show GuardAt Cg (L.gs i) H' (setG M.gs i G i)
      rw [setG_same]
      exact hG
    · show GuardAt Cg (L.gs i) H' (setG M.gs d G i)
      rw [setG_ne e]
      exact (h.gu i hi).keep fun b hb => k b (ML.in_g hi hb) (B i hi e b hb)
/-- the lists of a memory are apart from all the rest -/
structure Tail (L : ML) (z : Addr) : Prop where
  m : L.m ≠ z
  d : L.d ≠ z
  aG : L.aG ≠ z
  g : ∀ i, i < 2 → ∀ b ∈ (L.gs i).all, b ≠ z
theorem ML.tail {L : ML} (n : L.all.Nodup) : (∀ z ∈ [L.aC, L.aB, L.bl 0, L.bl 1, L.aJ, L.aL], Tail L z) ∧ [L.aC, L.aB, L.bl 0, L.bl 1, L.aJ, L.aL].Nodup := by
  unfold ML.all at n
  rw [List.nodup_append] at n
  obtain ⟨_, nc, h2⟩ := n
  refine ⟨fun z hz => ⟨h2 _ ?_ z hz, h2 _ ?_ z hz, h2 _ ?_ z hz, fun i hi b hb => h2 b ?_ z hz⟩, nc⟩
  · simp
  · simp
  · simp
  · rcases lt2 hi with rfl | rfl
    · exact List.mem_append_left _ (List.mem_append_right _ hb)
    · exact List.mem_append_right _ hb
section
variable {Cm Cg : Addr} {L : ML} {H : Hp} {M : MS} {xs : List V}
theorem MemAt.wcells (h : MemAt Cm Cg L H M) : MemAt Cm Cg L (upd H L.aC (.lst xs)) { M with cells := xs } := by
  obtain ⟨t, n⟩ := ML.tail h.nd
  have T := t L.aC (by simp)
  simp only [List.nodup_cons, List.mem_cons, List.not_mem_nil, or_false, not_or] at n
  obtain ⟨⟨c1, c2, c3, c4, c5⟩, ⟨b1, b2, b3, b4⟩, ⟨p1, p2, p3⟩, ⟨q1, q2⟩, j1, _⟩ := n
  refine ⟨(upd_ne T.m).trans h.om, (upd_ne T.d).trans h.od, (upd_ne T.aG).trans h.og, upd_same, (upd_ne (Ne.symm c1)).trans h.ob, fun i hi => ?_, (upd_ne (Ne.symm c4)).trans h.oj, (upd_ne (Ne.symm c5)).trans h.ol, fun i hi => (h.gu i hi).keep fun b hb => upd_ne (T.g i hi b hb), h.nd⟩
  rcases lt2 hi with rfl | rfl
  · exact (upd_ne (Ne.symm c2)).trans (h.obl 0 hi)
  · exact (upd_ne (Ne.symm c3)).trans (h.obl 1 hi)
theorem MemAt.wjo (h : MemAt Cm Cg L H M) : MemAt Cm Cg L (upd H L.aJ (.lst xs)) { M with jo := xs } := by
  obtain ⟨t, n⟩ := ML.tail h.nd
  have T := t L.aJ (by simp)
  simp only [List.nodup_cons, List.mem_cons, List.not_mem_nil, or_false, not_or] at n
  obtain ⟨⟨c1, c2, c3, c4, c5⟩, ⟨b1, b2, b3, b4⟩, ⟨p1, p2, p3⟩, ⟨q1, q2⟩, j1, _⟩ := n
  refine ⟨(upd_ne T.m).trans h.om, (upd_ne T.d).trans h.od, (upd_ne T.aG).trans h.og, (upd_ne c4).trans h.oc, (upd_ne b3).trans h.ob, fun i hi => ?_, upd_same, (upd_ne (Ne.symm j1)).trans h.ol, fun i hi => (h.gu i hi).keep fun b hb => upd_ne (T.g i hi b hb), h.nd⟩
  rcases lt2 hi with rfl | rfl
  · exact (upd_ne p2).trans (h.obl 0 hi)
  · exact (upd_ne q1).trans (h.obl 1 hi)
theorem MemAt.wlog (h : MemAt Cm Cg L H M) : MemAt Cm Cg L (upd H L.aL (.lst xs)) { M with log := xs } := by
  obtain ⟨t, n⟩ := ML.tail h.nd
  have T := t L.aL (by simp)
  simp only [List.nodup_cons, List.mem_cons, List.not_mem_nil, or_false, not_or] at n
  obtain ⟨⟨c1, c2, c3, c4, c5⟩, ⟨b1, b2, b3, b4⟩, ⟨p1, p2, p3⟩, ⟨q1, q2⟩, j1, _⟩ := n
  refine ⟨(upd_ne T.m).trans h.om, (upd_ne T.d).trans h.od, (upd_ne T.aG).trans h.og, (upd_ne c5).trans h.oc, (upd_ne b4).trans h.ob, fun i hi => ?_, (upd_ne j1).trans h.oj, upd_same, fun i hi => (h.gu i hi).keep fun b hb => upd_ne (T.g i hi b hb), h.nd⟩
  rcases lt2 hi with rfl | rfl
  · exact (upd_ne p3).trans (h.obl 0 hi)
  · exact (upd_ne q2).trans (h.obl 1 hi)
def setB (g : Nat → List V) (d : Nat) (x : List V) : Nat → List V := fun i => if i = d then x else g i
theorem MemAt.wbl (h : MemAt Cm Cg L H M) {d : Nat} (hd : d < 2) : MemAt Cm Cg L (upd H (L.bl d) (.lst xs)) { M with bl := setB M.bl d xs } := by
  obtain ⟨t, n⟩ := ML.tail h.nd
  simp only [List.nodup_cons, List.mem_cons, List.not_mem_nil, or_false, not_or] at n
  obtain ⟨⟨c1, c2, c3, c4, c5⟩, ⟨b1, b2, b3, b4⟩, ⟨p1, p2, p3⟩, ⟨q1, q2⟩, j1, _⟩ := n
  rcases lt2 hd with rfl | rfl
  · have T := t (L.bl 0) (by simp)
    refine ⟨(upd_ne T.m).trans h.om, (upd_ne T.d).trans h.od, (upd_ne T.aG).trans h.og, (upd_ne c2).trans h.oc, (upd_ne b1).trans h.ob, fun i hi => ?_, (upd_ne (Ne.symm p2)).trans h.oj, (upd_ne (Ne.symm p3)).trans h.ol, fun i hi => (h.gu i hi).keep fun b hb => upd_ne (T.g i hi b hb), h.nd⟩
    rcases lt2 hi with rfl | rfl
    · exact upd_same
    · exact (upd_ne (Ne.symm p1)).trans (h.obl 1 hi)
  · have T := t (L.bl 1) (by simp)
    refine ⟨(upd_ne T.m).trans h.om, (upd_ne T.d).trans h.od, (upd_ne T.aG).trans h.og, (upd_ne c3).trans h.oc, (upd_ne b2).trans h.ob, fun i hi => ?_, (upd_ne (Ne.symm q1)).trans h.oj, (upd_ne (Ne.symm q2)).trans h.ol, fun i hi => (h.gu i hi).keep fun b hb => upd_ne (T.g i hi b hb), h.nd⟩
    rcases lt2 hi with rfl | rfl
    · exact (upd_ne p1).trans (h.obl 0 hi)
    · exact upd_same
/-- a new thing -/
theorem MemAt.new {p : Addr} {o : HO} (h : MemAt Cm Cg L H M) (hp : H p = none) : MemAt Cm Cg L (upd H p o) M := h.same (Same.new (Same.refl H) hp)
end
end Rb
namespace Rb
open PySem PySem.Spec PyProof.Rows L2
/-! ### dma and drop -/
/-- what a use finds: nothing, or a frame with its right -/
def spDmaCell (K : PySem.W.Frag) : Sp := fun vs H Q _ => ∃ (L : ML) (M : MS) (d p : Nat) (i : Int) (r : Str) (wv : V), vs = [.ref L.m, .int (d : Int), .int (p : Int), .int i, .str r] ∧ MemAt (CM K) (CG K) L H M ∧ d < 2 ∧
  M.cells[56 + d * 6 + p]? = some wv ∧ (M.gs d).ents.length < 4000 ∧
  (((valV (M.gs d).ents (Sum.inl (p : Int))).getD wv = .non ∧ Q .non H) ∨ ∃ (t : Addr) (f : Int) (r' : Str), (valV (M.gs d).ents (Sum.inl (p : Int))).getD wv = .ref t ∧ SqT K H t [.int f, .str r'] ∧
    ∀ H', MemAt (CM K) (CG K) L H' { M with gs := setG M.gs d { M.gs d with ents := useE (M.gs d).ents (p : Int) wv } } → (∀ b, b ∉ L.all → H' b = H b) → Q (if r' = r then .int (fcell (d : Int) f i) else .non) H')
theorem tword_nat {d p : Nat} : tword (d : Int) (p : Int) = ((56 + d * 6 + p : Nat) : Int) := by
  unfold tword
  omega
section
variable {P : Program} {w : World} {K : PySem.W.Frag} {mg : Str → Option Value} {base : Heap}
theorem ok_dma_cell (T : Top K mg) : FnC P w K mg base CX0 4 (He.ma K (He.ga K "Memory") "_dma_cell") (spDmaCell K) := by
  have G_table_word := ok_table_word (P := P) (w := w) (base := base) T
  have G_frame_cell := ok_frame_cell (P := P) (w := w) (base := base) T
  have G_Guard_use := ok_use (P := P) (w := w) (base := base) T
  refine fnc0 T.d_Memory__dma_cell sc_Memory__dma_cell (fun _ _ _ _ _ _ us hl => match us, hl with | [_, _, _, _, _], _ => rfl) (fun vs H Q E h => ?_) (fun cdv A outer s H vs Q E hr h => ?_)
  · obtain ⟨L, M, d, p, i, r, wv, rfl, _⟩ := h
    rfl
  · obtain ⟨L, M, d, p, i, r, wv, rfl, hM, hd, hw, hl, h⟩ := h
    refine ⟨_, (pss_cons (ps_set (i := 5) sc_Memory__dma_cell.nd rfl (Or.inl rfl) (pe_ix ix_list (pe_fld (pv 0) rfl) (pe_f G_table_word hr (by decide) (by rfl) T.g_table_word pass0 (pa_cons (pv 1) (pa_cons (pv 2) pa_nil))) (fun _ _ => rfl)))
    (pss_cons (ps_set (i := 6) sc_Memory__dma_cell.nd rfl (Or.inl rfl) (pe_m G_Guard_use hr (by decide) T.cl_Guard T.me_Guard_use pass0 (pe_ix ix_list (pe_fld (pv 0) rfl) (pv 1) (fun _ _ => rfl)) (pa_cons (pv 2) (pa_cons (pv 4) (pa_cons (pv 5) pa_nil)))))
    (pss_one (ps_ret (pe_ifExp (pt_cmp (pc_isN (pv 6))) pe_non (pe_f G_frame_cell hr (by decide) (by rfl) T.g_frame_cell pass0 (pa_cons (pv 1) (pa_cons (pv 6) (pa_cons (pv 3) pa_nil))))))))), ?_⟩
    obtain ⟨_, ndg, _⟩ := ML.apart hd hM.nd
    have hb : ([V.ref (L.gs 0).g, V.ref (L.gs 1).g] : List V)[d]? = some (V.ref (L.gs d).g) := by
      rcases lt2 hd with rfl | rfl <;> rfl
    have hG := hM.gu d hd
    refine ⟨_, rfl, L.m, CM K, L.d, _, _, rfl, hM.om, T.cl_Memory, T.na_Memory__cells, lm_C, _, rfl, _, rfl, _, _, rfl, L.aC, M.cells, _, _, rfl, rfl, SqL.of hM.oc, by rw [tword_nat]; exact atI_n hw, ?_⟩
    refine ⟨_, rfl, L.m, CM K, L.d, _, _, rfl, hM.om, T.cl_Memory, T.na_Memory_guards, lm_g, _, rfl, L.aG, _, _, _, rfl, rfl, SqL.of hM.og, atI_n hb, (L.gs d).g, (L.gs d).d, _, rfl, hG.og, ?_, _, rfl, _, rfl, _, rfl, L.gs d, M.gs d, (p : Int), r, wv, rfl, hG, ndg, hl, ?_⟩
    · exact zn (by decide +kernel)
    · rcases h with ⟨ev, k⟩ | ⟨t, f, r', ev, hq, k⟩
      · refine .inl ⟨ev, ?_⟩
        refine ⟨_, rfl, _, rfl, ?_⟩
        show if decide (V.non = V.non) = true then _ else _
        rw [if_pos (by decide)]
        exact k
      · refine .inr ⟨t, f, r', ev, hq, fun H' hG' ke => ?_⟩
        have hM' := hM.guard hd hG' fun b _ hb2 => ke b hb2
        have kk := k H' hM' fun b hb2 => ke b fun z => hb2 (ML.in_g hd z)
        by_cases e : r' = r
        · rw [if_pos e] at kk ⊢
          refine ⟨_, rfl, _, rfl, ?_⟩
          show if decide (V.int f = V.non) = true then _ else _
          rw [if_neg (by simp)]
          exact ⟨_, rfl, _, rfl, _, rfl, _, _, _, rfl, kk⟩
        · rw [if_neg e] at kk ⊢
          refine ⟨_, rfl, _, rfl, ?_⟩
          show if decide (V.non = V.non) = true then _ else _
          rw [if_pos (by decide)]
          exact kk
end
end Rb
namespace Rb
open PySem PySem.Spec PyProof.Rows L2
/-- the guards of a memory behind a use -/
def useG (M : MS) (d : Nat) (p : Int) (wv : V) : Nat → GS := setG M.gs d { M.gs d with ents := useE (M.gs d).ents p wv }
def spDma (K : PySem.W.Frag) (rt : Str) (rest : List V) (no : V) (yes : ML → MS → Nat → Nat → Hp → VK → Prop) : Sp := fun vs H Q _ => ∃ (L : ML) (M : MS) (d p i : Nat) (wv : V), vs = [.ref L.m, .int (d : Int), .int (p : Int), .int (i : Int)] ++ rest ∧ MemAt (CM K) (CG K) L H M ∧ d < 2 ∧
  M.cells[56 + d * 6 + p]? = some wv ∧ (M.gs d).ents.length < 4000 ∧
  (((valV (M.gs d).ents (Sum.inl (p : Int))).getD wv = .non ∧ Q no H) ∨ ∃ (t : Addr) (f : Nat) (r' : Str), (valV (M.gs d).ents (Sum.inl (p : Int))).getD wv = .ref t ∧ SqT K H t [.int (f : Int), .str r'] ∧
    ∀ H', MemAt (CM K) (CG K) L H' { M with gs := useG M d (p : Int) wv } → (∀ b, b ∉ L.all → H' b = H b) → (r' ≠ rt → Q no H') ∧ (r' = rt → (d * 6 + f) * 4 + i < M.cells.length ∧ yes L { M with gs := useG M d (p : Int) wv } d ((d * 6 + f) * 4 + i) H' Q))
def spDmaRead (K : PySem.W.Frag) : Sp := spDma K "r" [] .non fun L M _ j H' Q => ∀ q x, M.cells[j]? = some x → H' q = none → Q (.ref q) (upd H' q (.tup [x]))
def spDmaWrite (K : PySem.W.Frag) : Sp := fun vs H Q E => ∃ v, spDma K "w" [v] (.bl false) (fun L M _ j H' Q => Q (.bl true) (upd H' L.aC (.lst (M.cells.set j v)))) vs H Q E
theorem fcell_nat {d f i : Nat} : fcell (d : Int) (f : Int) (i : Int) = (((d * 6 + f) * 4 + i : Nat) : Int) := by
  unfold fcell
  omega
section
variable {P : Program} {w : World} {K : PySem.W.Frag} {mg : Str → Option Value} {base : Heap}
theorem ok_dma_read (T : Top K mg) : FnC P w K mg base CX0 5 (He.ma K (He.ga K "Memory") "_dma_read") (spDmaRead K) := by
  have G_Memory__dma_cell := ok_dma_cell (P := P) (w := w) (base := base) T
  refine fnc0 T.d_Memory__dma_read sc_Memory__dma_read (fun _ _ _ _ _ _ us hl => match us, hl with | [_, _, _, _], _ => rfl) (fun vs H Q E h => ?_) (fun cdv A outer s H vs Q E hr h => ?_)
  · obtain ⟨L, M, d, p, i, wv, rfl, _⟩ := h
    rfl
  · obtain ⟨L, M, d, p, i, wv, rfl, hM, hd, hw, hl, h⟩ := h
    refine ⟨_, (pss_cons (ps_set (i := 4) sc_Memory__dma_read.nd rfl (Or.inl rfl) (pe_m G_Memory__dma_cell hr (by decide) T.cl_Memory T.me_Memory__dma_cell pass0 (pv 0) (pa_cons (pv 1) (pa_cons (pv 2) (pa_cons (pv 3) (pa_cons pe_str pa_nil))))))
    (pss_one (ps_ret (pe_ifExp (pt_cmp (pc_isN (pv 4))) pe_non (pe_tup (pa_cons (pe_ix ix_list (pe_fld (pv 0) rfl) (pv 4) (fun _ _ => rfl)) pa_nil)))))), ?_⟩
    refine ⟨_, rfl, L.m, L.d, _, rfl, hM.om, zn (by decide +kernel), _, rfl, _, rfl, _, rfl, L, M, d, p, (i : Int), "r", wv, rfl, hM, hd, hw, hl, ?_⟩
    rcases h with ⟨ev, k⟩ | ⟨t, f, r', ev, hq, k⟩
    · refine .inl ⟨ev, ?_⟩
      refine ⟨_, rfl, _, rfl, ?_⟩
      show if decide (V.non = V.non) = true then _ else _
      rw [if_pos (by decide)]
      exact k
    · refine .inr ⟨t, f, r', ev, hq, fun H' hM' ke => ?_⟩
      obtain ⟨kn, ky⟩ := k H' hM' ke
      by_cases e : r' = "r"
      · rw [if_pos e]
        obtain ⟨hj, ky⟩ := ky e
        have hx : M.cells[(d * 6 + f) * 4 + i]? = some (M.cells[(d * 6 + f) * 4 + i]'hj) := List.getElem?_eq_getElem hj
        refine ⟨_, rfl, _, rfl, ?_⟩
        show if decide (V.int (fcell (d : Int) (f : Int) (i : Int)) = V.non) = true then _ else _
        rw [if_neg (by simp)]
        refine ⟨_, rfl, L.m, CM K, L.d, _, _, rfl, hM'.om, T.cl_Memory, T.na_Memory__cells, lm_C, _, rfl, L.aC, M.cells, _, _, rfl, rfl, SqL.of hM'.oc, by rw [fcell_nat]; exact atI_n hx, (by rw [sizeLine_eq]; show 1 ≤ _; omega), fun q hq2 => ?_⟩
        exact ky q _ hx hq2
      · rw [if_neg e]
        refine ⟨_, rfl, _, rfl, ?_⟩
        show if decide (V.non = V.non) = true then _ else _
        rw [if_pos (by decide)]
        exact kn e
theorem ok_dma_write (T : Top K mg) : FnC P w K mg base CX0 5 (He.ma K (He.ga K "Memory") "_dma_write") (spDmaWrite K) := by
  have G_Memory__dma_cell := ok_dma_cell (P := P) (w := w) (base := base) T
  refine fnc0 T.d_Memory__dma_write sc_Memory__dma_write (fun _ _ _ _ _ _ us hl => match us, hl with | [_, _, _, _, _], _ => rfl) (fun vs H Q E h => ?_) (fun cdv A outer s H vs Q E hr h => ?_)
  · obtain ⟨v, L, M, d, p, i, wv, rfl, _⟩ := h
    rfl
  · obtain ⟨v, L, M, d, p, i, wv, rfl, hM, hd, hw, hl, h⟩ := h
    refine ⟨_, (pss_cons (ps_set (i := 5) sc_Memory__dma_write.nd rfl (Or.inl rfl) (pe_m G_Memory__dma_cell hr (by decide) T.cl_Memory T.me_Memory__dma_cell pass0 (pv 0) (pa_cons (pv 1) (pa_cons (pv 2) (pa_cons (pv 3) (pa_cons pe_str pa_nil))))))
    (pss_cons (ps_if (pt_cmp (pc_isN (pv 5))) (pss_one (ps_ret pe_bl)) pss_nil)
    (pss_cons (ps_asg (pv 4) (pg_sub (pe_fld (pv 0) rfl) (pv 5) set_list))
    (pss_one (ps_ret pe_bl))))), ?_⟩
    refine ⟨_, rfl, L.m, L.d, _, rfl, hM.om, zn (by decide +kernel), _, rfl, _, rfl, _, rfl, L, M, d, p, (i : Int), "w", wv, rfl, hM, hd, hw, hl, ?_⟩
    rcases h with ⟨ev, k⟩ | ⟨t, f, r', ev, hq, k⟩
    · refine .inl ⟨ev, ?_⟩
      refine ⟨_, rfl, _, rfl, ?_⟩
      show if decide (V.non = V.non) = true then _ else _
      rw [if_pos (by decide)]
      exact k
    · refine .inr ⟨t, f, r', ev, hq, fun H' hM' ke => ?_⟩
      obtain ⟨kn, ky⟩ := k H' hM' ke
      by_cases e : r' = "w"
      · rw [if_pos e]
        obtain ⟨hj, ky⟩ := ky e
        refine ⟨_, rfl, _, rfl, ?_⟩
        show if decide (V.int (fcell (d : Int) (f : Int) (i : Int)) = V.non) = true then _ else _
        rw [if_neg (by simp)]
        refine ⟨_, rfl, _, rfl, L.m, CM K, L.d, _, _, rfl, hM'.om, T.cl_Memory, T.na_Memory__cells, lm_C, _, rfl, L.aC, M.cells, _, (d * 6 + f) * 4 + i, rfl, rfl, hM'.oc, ?_, ?_⟩
        · rw [fcell_nat]
          exact ixN_in (by omega) (by omega)
        · exact ky
      · rw [if_neg e]
        refine ⟨_, rfl, _, rfl, ?_⟩
        show if decide (V.non = V.non) = true then _ else _
        rw [if_pos (by decide)]
        exact kn e
end
end Rb
namespace Rb
open PySem PySem.Spec PyProof.Rows L2
/-- the guards of a memory behind a drop -/
def dropG (M : MS) (d : Nat) (p : Int) (r : List V) : Nat → GS := setG M.gs d { M.gs d with que := r, ents := dropK (M.gs d).ents (Sum.inl p) }
def spMDrop (K : PySem.W.Frag) : Sp := fun vs H Q _ => ∃ (L : ML) (M : MS) (d : Nat), vs = [.ref L.m, .int (d : Int)] ∧ MemAt (CM K) (CG K) L H M ∧ d < 2 ∧ M.cells.length = 70 ∧
  (((M.gs d).que = [] ∧ Q (.bl false) H) ∨ ∃ (t : Addr) (p n : Int) (r : List V), (M.gs d).que = .ref t :: r ∧ SqT K H t [.int p, .int n] ∧
    ∀ H', MemAt (CM K) (CG K) L H' { M with gs := dropG M d p r, cells := M.cells.set (68 + d) (.int n) } → (∀ b, b ∉ L.all → H' b = H b) → Q (.bl true) H')
section
variable {P : Program} {w : World} {K : PySem.W.Frag} {mg : Str → Option Value} {base : Heap}
theorem ok_mdrop (T : Top K mg) : FnC P w K mg base CX0 5 (He.ma K (He.ga K "Memory") "_drop") (spMDrop K) := by
  have G_acknowledge := ok_acknowledge (P := P) (w := w) (base := base) T
  have G_Guard_drop := ok_drop (P := P) (w := w) (base := base) T
  refine fnc0 T.d_Memory__drop sc_Memory__drop (fun _ _ _ _ _ _ us hl => match us, hl with | [_, _], _ => rfl) (fun vs H Q E h => ?_) (fun cdv A outer s H vs Q E hr h => ?_)
  · obtain ⟨L, M, d, rfl, _⟩ := h
    rfl
  · obtain ⟨L, M, d, rfl, hM, hd, h70, h⟩ := h
    refine ⟨_, (pss_cons (ps_set (i := 2) sc_Memory__drop.nd rfl (Or.inl rfl) (pe_m0 G_Guard_drop hr (by decide) T.cl_Guard T.me_Guard_drop pass0 (pe_ix ix_list (pe_fld (pv 0) rfl) (pv 1) (fun _ _ => rfl))))
    (pss_cons (ps_if (pt_cmp (pc_isN (pv 2))) (pss_one (ps_ret pe_bl)) pss_nil)
    (pss_cons (ps_asg (pv 2) (pg_sub (pe_fld (pv 0) rfl) (pe_f G_acknowledge hr (by decide) (by rfl) T.g_acknowledge pass0 (pa_cons (pv 1) pa_nil)) set_list))
    (pss_one (ps_ret pe_bl))))), ?_⟩
    obtain ⟨_, ndg, _⟩ := ML.apart hd hM.nd
    have hb : ([V.ref (L.gs 0).g, V.ref (L.gs 1).g] : List V)[d]? = some (V.ref (L.gs d).g) := by
      rcases lt2 hd with rfl | rfl <;> rfl
    have hG := hM.gu d hd
    refine ⟨_, rfl, L.m, CM K, L.d, _, _, rfl, hM.om, T.cl_Memory, T.na_Memory_guards, lm_g, _, rfl, L.aG, _, _, _, rfl, rfl, SqL.of hM.og, atI_n hb, (L.gs d).g, (L.gs d).d, _, rfl, hG.og, zn (by decide +kernel), L.gs d, M.gs d, rfl, hG, ndg, ?_⟩
    rcases h with ⟨e, k⟩ | ⟨t, p, n, r, e, hq, k⟩
    · refine .inl ⟨e, ?_⟩
      refine ⟨_, rfl, _, rfl, ?_⟩
      show if decide (V.non = V.non) = true then _ else _
      rw [if_pos (by decide)]
      exact k
    · refine .inr ⟨t, p, n, r, e, hq, fun H' hG' ke => ?_⟩
      have hM' := hM.guard hd hG' fun b _ hb2 => ke b hb2
      refine ⟨_, rfl, _, rfl, ?_⟩
      show if decide (V.int n = V.non) = true then _ else _
      rw [if_neg (by simp)]
      refine ⟨_, rfl, _, rfl, L.m, CM K, L.d, _, _, rfl, hM'.om, T.cl_Memory, T.na_Memory__cells, lm_C, _, rfl, _, rfl, L.aC, M.cells, _, 68 + d, rfl, rfl, hM'.oc, ?_, ?_⟩
      · have ea : ackw (d : Int) = ((68 + d : Nat) : Int) := by
          unfold ackw
          omega
        rw [ea]
        exact ixN_in (by omega) (by omega)
      · refine k _ hM'.wcells fun b hb2 => ?_
        rw [upd_ne (fun z => hb2 (by rw [z]; simp [ML.all]))]
        exact ke b fun z => hb2 (ML.in_g hd z)
end
end Rb
namespace Rb
open PySem PySem.Spec PyProof.Rows L2
/-! ### what a request brings -/
inductive ResP (K : PySem.W.Frag) (L : ML) (M : MS) (d : Nat) (H : Hp) (Q : VK) : Str → List V → Prop
  | read {c : Nat} {x : V} (h : M.cells[c]? = some x) (k : Q x H) : ResP K L M d H Q "read" [.int (c : Int)]
  | write {c : Nat} {v : V} (h : c < M.cells.length) (k : Q .non (upd H L.aC (.lst (M.cells.set c v)))) : ResP K L M d H Q "write" [.int (c : Int), v]
  | dmaRead {p i : V} (k : spDmaRead K [.ref L.m, .int (d : Int), p, i] H Q E0) : ResP K L M d H Q "dma read" [p, i]
  | dmaWrite {p i v : V} (k : spDmaWrite K [.ref L.m, .int (d : Int), p, i, v] H Q E0) : ResP K L M d H Q "dma write" [p, i, v]
  | command {p : V} (k : spCommand K [.ref (L.gs d).g, p] H Q E0) : ResP K L M d H Q "command" [p]
  | drop (k : spMDrop K [.ref L.m, .int (d : Int)] H Q E0) : ResP K L M d H Q "drop" []
  | fetch {b : Nat} {x y z : V} (h : (M.bl d)[b]? = some x) (k : Q x H) : ResP K L M d H Q "fetch" [.int (b : Int), y, z]
  | commit {b : Nat} {v y z : V} {j : Addr} {js : List V} (h : b < (M.bl d).length) (hj : M.jo[d]? = some (.ref j)) (hs : SqT K H j js) (hl : js.length < 4000)
      (k : ∀ t u, H t = none → H u = none → u ≠ t → Q .non (upd (upd (upd (upd H (L.bl d) (.lst ((M.bl d).set b v))) t (.tup [y, z])) u (.tup (js ++ [.ref t]))) L.aJ (.lst (M.jo.set d (.ref u))))) : ResP K L M d H Q "commit" [.int (b : Int), v, y, z]
  | journal {x : V} (h : M.jo[d]? = some x) (k : Q x H) : ResP K L M d H Q "journal" []
  | tell {v : V} (h : d < M.jo.length) (k : Q .non (upd H L.aJ (.lst (M.jo.set d v)))) : ResP K L M d H Q "tell" [v]
def spResult (K : PySem.W.Frag) : Sp := fun vs H Q _ => ∃ (L : ML) (M : MS) (d : Nat) (q : Addr) (wd : Str) (xs : List V), vs = [.ref L.m, .int (d : Int), .ref q] ∧ MemAt (CM K) (CG K) L H M ∧ d < 2 ∧ SqT K H q (.str wd :: xs) ∧ ResP K L M d H Q wd xs
section
variable {P : Program} {w : World} {K : PySem.W.Frag} {mg : Str → Option Value} {base : Heap}
theorem ok_result (T : Top K mg) : FnC P w K mg base CX0 6 (He.ma K (He.ga K "Memory") "_result_of") (spResult K) := by
  have G_Memory__dma_read := ok_dma_read (P := P) (w := w) (base := base) T
  have G_Memory__dma_write := ok_dma_write (P := P) (w := w) (base := base) T
  have G_Memory__drop := ok_mdrop (P := P) (w := w) (base := base) T
  have G_Guard_command := ok_command (P := P) (w := w) (base := base) T
  refine fnc0 T.d_Memory__result_of sc_Memory__result_of (fun _ _ _ _ _ _ us hl => match us, hl with | [_, _, _], _ => rfl) (fun vs H Q E h => ?_) (fun cdv A outer s H vs Q E hr h => ?_)
  · obtain ⟨L, M, d, q, wd, xs, rfl, _⟩ := h
    rfl
  · obtain ⟨L, M, d, q, wd, xs, rfl, hM, hd, hq, h⟩ := h
    refine ⟨_, (pss_cons (ps_match (pv 2) (pc_cons sc_Memory__result_of.nd (pm_seq rfl (pms_cons pm_word (pms_cons (pm_name (i := 3) rfl (Or.inl rfl)) pms_nil)))
    (pss_one (ps_ret (pe_ix ix_list (pe_fld (pv 0) rfl) (pv 3) (fun _ _ => rfl))))
    (pc_cons sc_Memory__result_of.nd (pm_seq rfl (pms_cons pm_word (pms_cons (pm_name (i := 3) rfl (Or.inl rfl)) (pms_cons (pm_name (i := 4) rfl (Or.inl rfl)) pms_nil))))
    (pss_one (ps_asg (pv 4) (pg_sub (pe_fld (pv 0) rfl) (pv 3) set_list)))
    (pc_cons sc_Memory__result_of.nd (pm_seq rfl (pms_cons pm_word (pms_cons (pm_name (i := 5) rfl (Or.inl rfl)) (pms_cons (pm_name (i := 6) rfl (Or.inl rfl)) pms_nil))))
    (pss_one (ps_ret (pe_m G_Memory__dma_read hr (by decide) T.cl_Memory T.me_Memory__dma_read pass0 (pv 0) (pa_cons (pv 1) (pa_cons (pv 5) (pa_cons (pv 6) pa_nil))))))
    (pc_cons sc_Memory__result_of.nd (pm_seq rfl (pms_cons pm_word (pms_cons (pm_name (i := 5) rfl (Or.inl rfl)) (pms_cons (pm_name (i := 6) rfl (Or.inl rfl)) (pms_cons (pm_name (i := 4) rfl (Or.inl rfl)) pms_nil)))))
    (pss_one (ps_ret (pe_m G_Memory__dma_write hr (by decide) T.cl_Memory T.me_Memory__dma_write pass0 (pv 0) (pa_cons (pv 1) (pa_cons (pv 5) (pa_cons (pv 6) (pa_cons (pv 4) pa_nil)))))))
    (pc_cons sc_Memory__result_of.nd (pm_seq rfl (pms_cons pm_word (pms_cons (pm_name (i := 5) rfl (Or.inl rfl)) pms_nil)))
    (pss_one (ps_ret (pe_m G_Guard_command hr (by decide) T.cl_Guard T.me_Guard_command pass0 (pe_ix ix_list (pe_fld (pv 0) rfl) (pv 1) (fun _ _ => rfl)) (pa_cons (pv 5) pa_nil))))
    (pc_cons sc_Memory__result_of.nd (pm_seq rfl (pms_cons pm_word pms_nil))
    (pss_one (ps_ret (pe_m G_Memory__drop hr (by decide) T.cl_Memory T.me_Memory__drop pass0 (pv 0) (pa_cons (pv 1) pa_nil))))
    (pc_cons sc_Memory__result_of.nd (pm_seq rfl (pms_cons pm_word (pms_cons (pm_name (i := 7) rfl (Or.inl rfl)) (pms_cons pm_any (pms_cons pm_any pms_nil)))))
    (pss_one (ps_ret (pe_ix ix_list (pe_ix ix_list (pe_fld (pv 0) rfl) (pv 1) (fun _ _ => rfl)) (pv 7) (fun _ _ => rfl))))
    (pc_cons sc_Memory__result_of.nd (pm_seq rfl (pms_cons pm_word (pms_cons (pm_name (i := 7) rfl (Or.inl rfl)) (pms_cons (pm_name (i := 8) rfl (Or.inl rfl)) (pms_cons (pm_name (i := 9) rfl (Or.inl rfl)) (pms_cons (pm_name (i := 10) rfl (Or.inl rfl)) pms_nil))))))
    (pss_cons (ps_asg (pv 8) (pg_sub (pe_ix ix_list (pe_fld (pv 0) rfl) (pv 1) (fun _ _ => rfl)) (pv 7) set_list))
    (pss_one (ps_asg (pe_tup (StX.pa_star (pe_ix ix_list (pe_fld (pv 0) rfl) (pv 1) (fun _ _ => rfl)) (pa_cons (pe_tup (pa_cons (pv 9) (pa_cons (pv 10) pa_nil))) pa_nil))) (pg_sub (pe_fld (pv 0) rfl) (pv 1) set_list))))
    (pc_cons sc_Memory__result_of.nd (pm_seq rfl (pms_cons pm_word pms_nil))
    (pss_one (ps_ret (pe_ix ix_list (pe_fld (pv 0) rfl) (pv 1) (fun _ _ => rfl))))
    (pc_cons sc_Memory__result_of.nd (pm_seq rfl (pms_cons pm_word (pms_cons (pm_name (i := 11) rfl (Or.inl rfl)) pms_nil)))
    (pss_one (ps_asg (pv 11) (pg_sub (pe_fld (pv 0) rfl) (pv 1) set_list)))
    pc_nil)))))))))))
    (pss_one (ps_ret pe_non))), ?_⟩
    refine ⟨_, rfl, ?_⟩
    have hg : ([V.ref (L.gs 0).g, V.ref (L.gs 1).g] : List V)[d]? = some (V.ref (L.gs d).g) := by
      rcases lt2 hd with rfl | rfl <;> rfl
    have hb : ([V.ref (L.bl 0), V.ref (L.bl 1)] : List V)[d]? = some (V.ref (L.bl d)) := by
      rcases lt2 hd with rfl | rfl <;> rfl
    cases h with
    | read h k =>
      refine hit_word hq rfl (mn_name mn_nil) ?_
      exact ⟨_, rfl, L.m, CM K, L.d, _, _, rfl, hM.om, T.cl_Memory, T.na_Memory__cells, lm_C, _, rfl, L.aC, M.cells, _, _, rfl, rfl, SqL.of hM.oc, atI_n h, k⟩
    | write h k =>
      refine miss_word hq (by decide) ?_
      refine hit_word hq rfl (mn_name (mn_name mn_nil)) ?_
      exact ⟨_, rfl, _, rfl, L.m, CM K, L.d, _, _, rfl, hM.om, T.cl_Memory, T.na_Memory__cells, lm_C, _, rfl, L.aC, M.cells, _, _, rfl, rfl, hM.oc, ixN_in (by omega) (by omega), k⟩
    | dmaRead k =>
      refine miss_word hq (by decide) ?_
      refine miss_word hq (by decide) ?_
      refine hit_word hq rfl (mn_name (mn_name mn_nil)) ?_
      exact ⟨_, rfl, L.m, L.d, _, rfl, hM.om, zn (by decide +kernel), _, rfl, _, rfl, _, rfl, k⟩
    | dmaWrite k =>
      refine miss_word hq (by decide) ?_
      refine miss_word hq (by decide) ?_
      refine miss_word hq (by decide) ?_
      refine hit_word hq rfl (mn_name (mn_name (mn_name mn_nil))) ?_
      exact ⟨_, rfl, L.m, L.d, _, rfl, hM.om, zn (by decide +kernel), _, rfl, _, rfl, _, rfl, _, rfl, k⟩
    | command k =>
      refine miss_word hq (by decide) ?_
      refine miss_word hq (by decide) ?_
      refine miss_word hq (by decide) ?_
      refine miss_word hq (by decide) ?_
      refine hit_word hq rfl (mn_name mn_nil) ?_
      exact ⟨_, rfl, L.m, CM K, L.d, _, _, rfl, hM.om, T.cl_Memory, T.na_Memory_guards, lm_g, _, rfl, L.aG, _, _, _, rfl, rfl, SqL.of hM.og, atI_n hg, (L.gs d).g, (L.gs d).d, _, rfl, (hM.gu d hd).og, zn (by decide +kernel), _, rfl, k⟩
    | drop k =>
      refine miss_word hq (by decide) ?_
      refine miss_word hq (by decide) ?_
      refine miss_word hq (by decide) ?_
      refine miss_word hq (by decide) ?_
      refine miss_word hq (by decide) ?_
      refine hit_word hq rfl mn_nil ?_
      exact ⟨_, rfl, L.m, L.d, _, rfl, hM.om, zn (by decide +kernel), _, rfl, k⟩
    | fetch h k =>
      refine miss_word hq (by decide) ?_
      refine miss_word hq (by decide) ?_
      refine miss_word hq (by decide) ?_
      refine miss_word hq (by decide) ?_
      refine miss_word hq (by decide) ?_
      refine miss_word hq (by decide) ?_
      refine hit_word hq rfl (mn_name (mn_any (mn_any mn_nil))) ?_
      exact ⟨_, rfl, L.m, CM K, L.d, _, _, rfl, hM.om, T.cl_Memory, T.na_Memory__blocks, lm_B, _, rfl, L.aB, _, _, _, rfl, rfl, SqL.of hM.ob, atI_n hb, _, rfl, L.bl d, M.bl d, _, _, rfl, rfl, SqL.of (hM.obl d hd), atI_n h, k⟩
    | @commit b v y z j js h hj hs hl k =>
      refine miss_word hq (by decide) ?_
      refine miss_word hq (by decide) ?_
      refine miss_word hq (by decide) ?_
      refine miss_word hq (by decide) ?_
      refine miss_word hq (by decide) ?_
      refine miss_word hq (by decide) ?_
      refine miss_word hq (by decide) ?_
      refine hit_word hq rfl (mn_name (mn_name (mn_name (mn_name mn_nil)))) ?_
      have hM1 := hM.wbl (xs := (M.bl d).set b v) hd
      refine ⟨_, rfl, _, rfl, L.m, CM K, L.d, _, _, rfl, hM.om, T.cl_Memory, T.na_Memory__blocks, lm_B, _, rfl, L.aB, _, _, _, rfl, rfl, SqL.of hM.ob, atI_n hb, _, rfl, L.bl d, M.bl d, _, _, rfl, rfl, hM.obl d hd, ixN_in (by omega) (by omega), ?_⟩
      refine ⟨_, rfl, L.m, CM K, L.d, _, _, rfl, hM1.om, T.cl_Memory, T.na_Memory__journals, lm_J, _, rfl, L.aJ, M.jo, _, _, rfl, rfl, SqL.of hM1.oj, atI_n hj, j, js, rfl, .inl (TSame.lst (hM.obl d hd) _ _ hs), _, rfl, _, rfl, (by rw [sizeLine_eq]; show 2 ≤ _; omega), fun t ht => ?_⟩
      have hM2 := hM1.new (o := .tup [y, z]) ht
      refine ⟨(by rw [sizeLine_eq, List.length_append]; show js.length + 1 ≤ _; omega), fun u hu => ?_⟩
      have hM3 := hM2.new (o := .tup (js ++ [.ref t])) hu
      have hjl : d < M.jo.length := (List.getElem?_eq_some_iff.mp hj).1
      refine ⟨_, rfl, L.m, CM K, L.d, _, _, rfl, hM3.om, T.cl_Memory, T.na_Memory__journals, lm_J, _, rfl, L.aJ, M.jo, _, _, rfl, rfl, hM3.oj, ixN_in (by omega) (by omega), ?_⟩
      exact k t u (free_upd ht).2 (free_upd (free_upd hu).2).2 (free_upd hu).1
    | journal h k =>
      refine miss_word hq (by decide) ?_
      refine miss_word hq (by decide) ?_
      refine miss_word hq (by decide) ?_
      refine miss_word hq (by decide) ?_
      refine miss_word hq (by decide) ?_
      refine miss_word hq (by decide) ?_
      refine miss_word hq (by decide) ?_
      refine miss_word hq (by decide) ?_
      refine hit_word hq rfl mn_nil ?_
      exact ⟨_, rfl, L.m, CM K, L.d, _, _, rfl, hM.om, T.cl_Memory, T.na_Memory__journals, lm_J, _, rfl, L.aJ, M.jo, _, _, rfl, rfl, SqL.of hM.oj, atI_n h, k⟩
    | tell h k =>
      refine miss_word hq (by decide) ?_
      refine miss_word hq (by decide) ?_
      refine miss_word hq (by decide) ?_
      refine miss_word hq (by decide) ?_
      refine miss_word hq (by decide) ?_
      refine miss_word hq (by decide) ?_
      refine miss_word hq (by decide) ?_
      refine miss_word hq (by decide) ?_
      refine miss_word hq (by decide) ?_
      refine hit_word hq rfl (mn_name mn_nil) ?_
      exact ⟨_, rfl, _, rfl, L.m, CM K, L.d, _, _, rfl, hM.om, T.cl_Memory, T.na_Memory__journals, lm_J, _, rfl, L.aJ, M.jo, _, _, rfl, rfl, hM.oj, ixN_in (by omega) (by omega), k⟩
end
end Rb
namespace Rb
open PySem PySem.Spec PyProof.Rows L2
theorem mFld_put {n m : Int} {aG aC aB aJ aL : Addr} : putF ("count" : Str) (.int m) (mFld n aG aC aB aJ aL) = mFld m aG aC aB aJ aL := zp (i := 0) (by decide +kernel) rfl
theorem MemAt.wcount {Cm Cg : Addr} {L : ML} {H : Hp} {M : MS} {n : Int} (h : MemAt Cm Cg L H M) : MemAt Cm Cg L (upd H L.m (.ins Cm L.d (mFld n L.aG L.aC L.aB L.aJ L.aL))) { M with count := n } := by
  obtain ⟨t, _⟩ := ML.tail h.nd
  have nn := h.nd
  have a0 := (ML.apart (d := 0) (by omega) h.nd).1.m
  have a1 := (ML.apart (d := 1) (by omega) h.nd).1.m
  unfold ML.all at nn
  rw [List.nodup_append, List.nodup_append, List.nodup_append] at nn
  obtain ⟨⟨⟨na, _, _⟩, _, _⟩, _, _⟩ := nn
  simp only [List.nodup_cons, List.mem_cons, List.not_mem_nil, or_false, not_or] at na
  obtain ⟨⟨m1, m2⟩, _⟩ := na
  refine ⟨upd_same, (upd_ne (Ne.symm m1)).trans h.od, (upd_ne (Ne.symm m2)).trans h.og, (upd_ne (Ne.symm (t L.aC (by simp)).m)).trans h.oc, (upd_ne (Ne.symm (t L.aB (by simp)).m)).trans h.ob, fun i hi => ?_, (upd_ne (Ne.symm (t L.aJ (by simp)).m)).trans h.oj, (upd_ne (Ne.symm (t L.aL (by simp)).m)).trans h.ol, fun i hi => (h.gu i hi).keep fun b hb => upd_ne fun z => ?_, h.nd⟩
  · rcases lt2 hi with rfl | rfl
    · exact (upd_ne (Ne.symm (t (L.bl 0) (by simp)).m)).trans (h.obl 0 hi)
    · exact (upd_ne (Ne.symm (t (L.bl 1) (by simp)).m)).trans (h.obl 1 hi)
  · rcases lt2 hi with rfl | rfl
    · exact a0 (z ▸ hb)
    · exact a1 (z ▸ hb)
/-- behind the result: the access is counted and logged, and the pair of the result and the number is new -/
def AccP (Cm Cg : Addr) (L : ML) (a q : Addr) (Q : VK) (r : V) (H2 : Hp) : Prop := ∃ M2, MemAt Cm Cg L H2 M2 ∧ M2.log.length < 4000 ∧
  ∀ t u H3, MemAt Cm Cg L H3 { M2 with count := M2.count + 1, log := M2.log ++ [.ref t] } → H2 t = none → H2 u = none → u ≠ t → H3 t = some (.tup [.int (M2.count + 1), .ref a, .ref q, r]) → H3 u = some (.tup [r, .int (M2.count + 1)]) →
    (∀ b, b ∉ L.all → b ≠ t → b ≠ u → H3 b = H2 b) → Q (.ref u) H3
def spAccess (K : PySem.W.Frag) : Sp := fun vs H Q E => ∃ (L : ML) (M : MS) (a : Addr) (role : Str) (d : Nat) (q : Addr) (wd : Str) (rs ks : List Str) (xs : List V) (ds : List PyData), vs = [.ref L.m, .ref a, .ref q] ∧ MemAt (CM K) (CG K) L H M ∧
  SqT K H a [.str role, .int (d : Int)] ∧ SqT K H q (.str wd :: xs) ∧ DpAll K H xs ds ∧ noLs ds = true ∧ szs ds ≤ 4000 ∧ (wd, rs, ks) ∈ formsL ∧ (wd = "write" → isTw (d : Int) (cellOf ds) = true → wordForm (valOf ds)) ∧ d < 2 ∧
  (allowB role (d : Int) wd rs ks ds = false → ∀ H', Same H H' → E (NV K) none H') ∧
  (allowB role (d : Int) wd rs ks ds = true → ∀ H1 Q', Same H H1 → MemAt (CM K) (CG K) L H1 M → (∀ r H2, AccP (CM K) (CG K) L a q Q r H2 → Q' r H2) → ResP K L M d H1 Q' wd xs)
section
variable {P : Program} {w : World} {K : PySem.W.Frag} {mg : Str → Option Value} {base : Heap}
theorem ok_access (T : Top K mg) (TB : ∃ es n, KDict K w (He.ga K "FORMS") es n) : FnC P w K mg base (L2.CX P w) 7 (He.ma K (He.ga K "Memory") "access") (spAccess K) := by
  have G_is_allowed := ok_is_allowed (P := P) (w := w) (base := base) T TB
  have G_NotValid___init__ := ok_NotValid_init (P := P) (w := w) (base := base) T
  have G_Memory__result_of := ok_result (P := P) (w := w) (base := base) T
  refine fnc T.d_Memory_access sc_Memory_access (fun _ _ _ _ _ _ us hl => match us, hl with | [_, _, _], _ => rfl) (fun vs H Q E h => ?_) (fun cdv A outer s H vs Q E hr h => ?_)
  · obtain ⟨L, M, a, role, d, q, wd, rs, ks, xs, ds, rfl, _⟩ := h
    rfl
  · obtain ⟨L, M, a, role, d, q, wd, rs, ks, xs, ds, rfl, hM, ha, hq, hD, hn, hs, hf, hw, hd, ke, ky⟩ := h
    refine ⟨_, (pss_cons (ps_if (pt_not (pt_val (pe_f G_is_allowed hr (by decide) (by rfl) T.g_is_allowed pass0 (pa_cons (pv 1) (pa_cons (pv 2) pa_nil))))) (pss_one (ps_raise rfl (takes_of rfl rfl rfl rfl) (pmk_bare T.ex_NotValid T.ini_NotValid T.ity_NotValid G_NotValid___init__ hr (by decide) pass0 (by rfl) T.g_NotValid))) pss_nil)
    (pss_cons (ps_set (i := 3) sc_Memory_access.nd rfl (Or.inl rfl) (pe_m G_Memory__result_of hr (by decide) T.cl_Memory T.me_Memory__result_of pass0 (pv 0) (pa_cons (pe_ix ix_tup (pv 1) pe_int (fun _ _ => rfl)) (pa_cons (pv 2) pa_nil))))
    (pss_cons (ps_fldaug (pv 0) pe_int in_add)
    (pss_cons (ps_expr (pe_bm PySem.F.plainAttrs_list PySem.F.slot_list_append PySem.F.type_list_append mt_append (pe_fld (pv 0) rfl) (pa_cons (pe_tup (pa_cons (pe_fld (pv 0) rfl) (pa_cons (pv 1) (pa_cons (pv 2) (pa_cons (pv 3) pa_nil))))) pa_nil)))
    (pss_one (ps_ret (pe_tup (pa_cons (pv 3) (pa_cons (pe_fld (pv 0) rfl) pa_nil))))))))), ?_⟩
    refine ⟨_, rfl, _, rfl, a, role, (d : Int), q, wd, rs, ks, xs, ds, rfl, ha, hq, hD, hn, hs, hf, hw, fun H1 s1 => ⟨_, rfl, ?_⟩⟩
    cases e : allowB role (d : Int) wd rs ks ds with
    | false => exact ⟨fun x hx => ⟨x, _, rfl, T.ex_NotValid, upd_same, rfl, rfl⟩, ke e H1 s1⟩
    | true =>
      have hM1 := hM.same s1
      have ha1 := TSame.same (K := K) s1 _ _ ha
      have hq1 := TSame.same (K := K) s1 _ _ hq
      refine ⟨_, rfl, L.m, L.d, _, rfl, hM1.om, zn (by decide +kernel), _, rfl, a, _, 1, _, rfl, rfl, ha1, atI_n (j := 1) rfl, _, rfl, L, M, d, q, wd, xs, rfl, hM1, hd, hq1, ?_⟩
      refine ky e H1 _ s1 hM1 fun r H2 hp => ?_
      obtain ⟨M2, hM2, hl, k⟩ := hp
      have hM3 := hM2.wcount (n := M2.count + 1)
      refine ⟨_, rfl, L.m, CM K, L.d, _, _, rfl, hM2.om, T.cl_Memory, T.na_Memory_count, lm_c, _, _, rfl, rfl, _, _, hM2.om, (by show 6 < 1000; omega), ?_⟩
      rw [mFld_put]
      refine ⟨_, rfl, L.m, CM K, L.d, _, _, rfl, hM3.om, T.cl_Memory, T.na_Memory__log, lm_L, .inl ⟨rfl, _, SqL.of hM3.ol⟩, _, rfl, L.m, CM K, L.d, _, _, rfl, hM3.om, T.cl_Memory, T.na_Memory_count, lm_c, _, rfl, _, rfl, _, rfl, (by rw [sizeLine_eq]; show 4 ≤ _; omega), fun t ht => ?_⟩
      have hM4 := hM3.new (o := .tup [.int (M2.count + 1), .ref a, .ref q, r]) ht
      have hM5 := hM4.wlog (xs := M2.log ++ [.ref t])
      refine ⟨L.aL, _, _, rfl, rfl, hM4.ol, (by rw [sizeLine_eq]; show M2.log.length < _; omega), ?_⟩
      refine ⟨_, rfl, _, rfl, L.m, CM K, L.d, _, _, rfl, hM5.om, T.cl_Memory, T.na_Memory_count, lm_c, (by rw [sizeLine_eq]; show 2 ≤ _; omega), fun u hu => ?_⟩
      have hM6 := hM5.new (o := .tup [r, .int (M2.count + 1)]) hu
      obtain ⟨u1, u2⟩ := free_upd hu
      obtain ⟨u3, u4⟩ := free_upd u2
      obtain ⟨u5, u6⟩ := free_upd u4
      obtain ⟨t1, t2⟩ := free_upd ht
      have tL : t ≠ L.aL := fun z => by
        rw [z] at t2
        rw [hM2.ol] at t2
        cases t2
      refine k t u _ hM6 t2 u6 u3 ?_ upd_same fun b hb h1 h2 => ?_
      · rw [upd_ne (Ne.symm u3), upd_ne tL, upd_same]
      · rw [upd_ne h2, upd_ne (fun z => hb (by rw [z]; simp [ML.all])), upd_ne h1, upd_ne (fun z => hb (by rw [z]; simp [ML.all]))]
end
end Rb
namespace Rb
open PySem PySem.Spec PyProof.Rows L2
/-! ### a memory by its data -/
structure AM where
  cells : List PyData
  ent : Nat → Int → Option PyData
  que : Nat → List (Int × Int)
  tix : Nat → Int
  jo : Nat → List PyData
  bl : Nat → List PyData
  log : List PyData
def wordF (d : PyData) : Prop := ∃ (f : Nat) (r : Str), d = .tuple [.int (f : Int), .str r] ∧ f < 6 ∧ (r = "r" ∨ r = "w")
def cmdD (p : Int × Int) : PyData := .tuple [.int p.1, .int p.2]
def updN {α : Type} (g : Nat → α) (d : Nat) (x : α) : Nat → α := fun i => if i = d then x else g i
theorem updN_same {α : Type} {g : Nat → α} {d : Nat} {x : α} : updN g d x d = x := if_pos rfl
theorem updN_ne {α : Type} {g : Nat → α} {d i : Nat} {x : α} (h : i ≠ d) : updN g d x i = g i := if_neg h
def updI (g : Int → Option PyData) (p : Int) (x : Option PyData) : Int → Option PyData := fun i => if i = p then x else g i
/-- entries by data -/
def EntR (K : PySem.W.Frag) (H : Hp) (E : List (Key × V)) (g : Int → Option PyData) : Prop := ∀ p : Int, (valV E (Sum.inl p) = none ∧ g p = none) ∨ ∃ v dd, valV E (Sum.inl p) = some v ∧ g p = some dd ∧ Dp K H v dd
/-- the keys of entries are pages -/
def KeyI (E : List (Key × V)) : Prop := ∃ ks : List Int, E.map (·.1) = ks.map Sum.inl ∧ ks.Nodup ∧ ∀ k ∈ ks, 0 ≤ k ∧ k < 6
theorem KeyI.put {E : List (Key × V)} {p : Int} {v : V} (h : KeyI E) (h0 : 0 ≤ p) (h6 : p < 6) : KeyI (putK E (Sum.inl p) v) := by
  obtain ⟨ks, e, nd, kb⟩ := h
  unfold putK
  split
  · refine ⟨ks, ?_, nd, kb⟩
    rw [← e, List.map_map]
    refine List.map_congr_left fun kv _ => ?_
    show (if kv.1 = Sum.inl p then (kv.1, v) else kv).1 = kv.1
    split <;> rfl
  · rename_i c
    have np : p ∉ ks := fun z => c (by
      rw [List.any_eq_true]
      have hm : (Sum.inl p : Key) ∈ E.map (·.1) := by
        rw [e]
        exact List.mem_map.mpr ⟨p, z, rfl⟩
      obtain ⟨kv, h1, h2⟩ := List.mem_map.mp hm
      exact ⟨kv, h1, decide_eq_true h2⟩)
    refine ⟨ks ++ [p], ?_, ?_, fun k hk => ?_⟩
    · rw [List.map_append, List.map_append, e]
      rfl
    · rw [List.nodup_append]
      refine ⟨nd, by simp, fun a ha b hb z => ?_⟩
      simp only [List.mem_cons, List.not_mem_nil, or_false] at hb
      rw [z, hb] at ha
      exact np ha
    · rcases List.mem_append.mp hk with z | z
      · exact kb k z
      · simp only [List.mem_cons, List.not_mem_nil, or_false] at z
        rw [z]
        exact ⟨h0, h6⟩
theorem KeyI.drop {E : List (Key × V)} {p : Int} (h : KeyI E) : KeyI (dropK E (Sum.inl p)) := by
  obtain ⟨ks, e, nd, kb⟩ := h
  refine ⟨ks.filter fun k => decide ((Sum.inl k : Key) ≠ Sum.inl p), ?_, nd.filter _, fun k hk => kb k (List.mem_filter.mp hk).1⟩
  unfold dropK
  have h1 : (E.filter fun kv => decide (kv.1 ≠ Sum.inl p)).map (·.1) = (E.map (·.1)).filter fun k => decide (k ≠ (Sum.inl p : Key)) := by
    rw [List.filter_map]
    rfl
  rw [h1, e, List.filter_map]
  rfl
structure Abs (K : PySem.W.Frag) (H : Hp) (L : ML) (M : MS) (A : AM) (N : Nat) : Prop where
  mem : MemAt (CM K) (CG K) L H M
  cs : DpAll K H M.cells A.cells
  cn : noLs A.cells = true
  c7 : A.cells.length = 70
  en : ∀ d, d < 2 → EntR K H (M.gs d).ents (A.ent d)
  ew : ∀ d, d < 2 → ∀ p dd, A.ent d p = some dd → wordF dd
  tw : ∀ d, d < 2 → ∀ p, p < 6 → ∀ dd, A.cells[56 + d * 6 + p]? = some dd → dd = .none ∨ wordF dd
  qu : ∀ d, d < 2 → DpAll K H (M.gs d).que ((A.que d).map cmdD)
  ti : ∀ d, d < 2 → (M.gs d).tix = A.tix d
  jo : ∃ j0 j1, M.jo = [.ref j0, .ref j1] ∧ (∃ xs, SqT K H j0 xs ∧ DpAll K H xs (A.jo 0)) ∧ (∃ xs, SqT K H j1 xs ∧ DpAll K H xs (A.jo 1))
  jn : ∀ d, d < 2 → noLs (A.jo d) = true
  bs : ∀ d, d < 2 → DpAll K H (M.bl d) (A.bl d)
  bn : ∀ d, d < 2 → noLs (A.bl d) = true ∧ (A.bl d).length = 8
  lg : DpAll K H M.log A.log
  ln : noLs A.log = true
  ct : M.count = (A.log.length : Int)
  /-- what has a length -/
  s0 : A.log.length ≤ N
  s1 : ∀ d, d < 2 → (M.gs d).ents.length ≤ N
  s2 : ∀ d, d < 2 → (A.que d).length ≤ N
  s3 : ∀ d, d < 2 → (A.jo d).length ≤ N + 100
  ek : ∀ d, d < 2 → KeyI (M.gs d).ents
theorem noLs_map {α : Type} {f : α → PyData} (h : ∀ x, noL (f x) = true) : ∀ l : List α, noLs (l.map f) = true
  | [] => rfl
  | x :: xs => by
    show (noL (f x) && noLs (xs.map f)) = true
    rw [h, noLs_map h xs]
    rfl
theorem noLs_cmd (l : List (Int × Int)) : noLs (l.map cmdD) = true := noLs_map (fun _ => rfl) l
theorem wordF.nl {d : PyData} (h : wordF d) : noL d = true := by
  obtain ⟨f, r, rfl, _⟩ := h
  rfl
theorem EntR.ts {K : PySem.W.Frag} {H H' : Hp} {E : List (Key × V)} {g : Int → Option PyData} (h : EntR K H E g) (hw : ∀ p dd, g p = some dd → wordF dd) (s : TSame K H H') : EntR K H' E g := fun p => by
  rcases h p with q | ⟨v, dd, e1, e2, e3⟩
  · exact .inl q
  · exact .inr ⟨v, dd, e1, e2, Rb.Dp.ts s _ _ (hw p dd e2).nl e3⟩
/-- the same memory behind a heap in which its objects and the tuples stay -/
theorem Abs.move {K : PySem.W.Frag} {H H' : Hp} {L : ML} {M : MS} {A : AM} {N : Nat} (h : Abs K H L M A N) (m : MemAt (CM K) (CG K) L H' M) (s : TSame K H H') : Abs K H' L M A N := by
  refine { h with mem := m, cs := Rb.DpAll.ts s _ _ h.cn h.cs, en := fun d hd => (h.en d hd).ts (h.ew d hd) s, qu := fun d hd => Rb.DpAll.ts s _ _ (noLs_cmd _) (h.qu d hd), jo := ?_, bs := fun d hd => Rb.DpAll.ts s _ _ (h.bn d hd).1 (h.bs d hd), lg := Rb.DpAll.ts s _ _ h.ln h.lg }
  obtain ⟨j0, j1, e, ⟨xs, a, b⟩, ⟨ys, c, d⟩⟩ := h.jo
  exact ⟨j0, j1, e, ⟨xs, s _ _ a, Rb.DpAll.ts s _ _ (h.jn 0 (by decide)) b⟩, ⟨ys, s _ _ c, Rb.DpAll.ts s _ _ (h.jn 1 (by decide)) d⟩⟩
theorem Abs.same {K : PySem.W.Frag} {H H' : Hp} {L : ML} {M : MS} {A : AM} {N : Nat} (h : Abs K H L M A N) (s : Same H H') : Abs K H' L M A N := h.move (h.mem.same s) (TSame.same s)
/-- no object of a memory is a tuple -/
theorem MemAt.kind {Cm Cg : Addr} {L : ML} {H : Hp} {M : MS} (h : MemAt Cm Cg L H M) : ∀ b ∈ L.all, ∃ o, H b = some o ∧ (∀ xs, o ≠ .tup xs) ∧ ∀ ob xs, o ≠ .frz ob (.tup xs) := by
  intro b hb
  have gg : ∀ d, d < 2 → b ∈ (L.gs d).all → ∃ o, H b = some o ∧ (∀ xs, o ≠ .tup xs) ∧ ∀ ob xs, o ≠ .frz ob (.tup xs) := fun d hd hm => by
    have G := h.gu d hd
    simp only [GL.all, List.mem_cons, List.not_mem_nil, or_false] at hm
    rcases hm with rfl | rfl | rfl | rfl
    · exact ⟨_, G.od, fun _ z => (nomatch z), fun _ _ z => (nomatch z)⟩
    · exact ⟨_, G.og, fun _ z => (nomatch z), fun _ _ z => (nomatch z)⟩
    · exact ⟨_, G.oe, fun _ z => (nomatch z), fun _ _ z => (nomatch z)⟩
    · exact ⟨_, G.oq, fun _ z => (nomatch z), fun _ _ z => (nomatch z)⟩
  simp only [ML.all, List.mem_append, List.mem_cons, List.not_mem_nil, or_false] at hb
  rcases hb with (((rfl | rfl | rfl) | hb) | hb) | rfl | rfl | rfl | rfl | rfl | rfl
  · exact ⟨_, h.om, fun _ z => (nomatch z), fun _ _ z => (nomatch z)⟩
  · exact ⟨_, h.od, fun _ z => (nomatch z), fun _ _ z => (nomatch z)⟩
  · exact ⟨_, h.og, fun _ z => (nomatch z), fun _ _ z => (nomatch z)⟩
  · exact gg 0 (by decide) hb
  · exact gg 1 (by decide) hb
  · exact ⟨_, h.oc, fun _ z => (nomatch z), fun _ _ z => (nomatch z)⟩
  · exact ⟨_, h.ob, fun _ z => (nomatch z), fun _ _ z => (nomatch z)⟩
  · exact ⟨_, h.obl 0 (by decide), fun _ z => (nomatch z), fun _ _ z => (nomatch z)⟩
  · exact ⟨_, h.obl 1 (by decide), fun _ z => (nomatch z), fun _ _ z => (nomatch z)⟩
  · exact ⟨_, h.oj, fun _ z => (nomatch z), fun _ _ z => (nomatch z)⟩
  · exact ⟨_, h.ol, fun _ z => (nomatch z), fun _ _ z => (nomatch z)⟩
theorem MemAt.noT {Cm Cg : Addr} {L : ML} {H : Hp} {M : MS} (h : MemAt Cm Cg L H M) : ∀ b ∈ L.all, (∀ xs, H b ≠ some (.tup xs)) ∧ ∀ ob xs, H b ≠ some (.frz ob (.tup xs)) := by
  intro b hb
  obtain ⟨o, e, h1, h2⟩ := h.kind b hb
  exact ⟨fun xs z => by rw [e] at z; exact h1 xs (Option.some.inj z), fun ob xs z => by rw [e] at z; exact h2 ob xs (Option.some.inj z)⟩
theorem MemAt.nin {Cm Cg : Addr} {L : ML} {H : Hp} {M : MS} {p : Addr} (h : MemAt Cm Cg L H M) (hp : H p = none) : p ∉ L.all := fun z => by
  obtain ⟨o, e, _⟩ := h.kind p z
  rw [hp] at e
  cases e
/-- what lies outside of the memory stays -/
def KL (L : ML) (H H' : Hp) : Prop := ∀ b o, H b = some o → b ∉ L.all → H' b = some o
theorem KL.refl {L : ML} {H : Hp} : KL L H H := fun _ _ h _ => h
theorem KL.trans {L : ML} {H H1 H2 : Hp} (a : KL L H H1) (b : KL L H1 H2) : KL L H H2 := fun c o h n => b c o (a c o h n) n
theorem KL.of {L : ML} {H H' : Hp} (s : Same H H') : KL L H H' := fun b o h _ => s b o h
theorem KL.upd {L : ML} {H H' : Hp} {p : Addr} {o : HO} (a : KL L H H') (hp : p ∈ L.all) : KL L H (upd H' p o) := fun b u h n => by
  have nb : b ≠ p := fun z => n (by rw [z]; exact hp)
  rw [upd_ne nb]
  exact a b u h n
theorem KL.new {L : ML} {H H' : Hp} {p : Addr} {o : HO} (a : KL L H H') (hp : H' p = none) : KL L H (L2.upd H' p o) := fun b u h n => by
  have q := a b u h n
  rw [upd_ne (ne_of_none q hp)]
  exact q
theorem KL.ts {Cm Cg : Addr} {K : PySem.W.Frag} {L : ML} {H H' : Hp} {M : MS} (k : KL L H H') (m : MemAt Cm Cg L H M) : TSame K H H' := fun a xs q => by
  rcases q with (q | ⟨ob, q⟩) | q
  · exact .inl (.inl (k _ _ q fun z => (m.noT a z).1 xs q))
  · exact .inl (.inr ⟨ob, k _ _ q fun z => (m.noT a z).2 ob xs q⟩)
  · exact .inr q
/-- a part of the cells -/
def useW (A : AM) (d p : Nat) : PyData := (A.ent d (p : Int)).getD (A.cells[56 + d * 6 + p]?.getD .none)
def isNoneD : PyData → Bool
  | .none => true
  | _ => false
def useA (A : AM) (d p : Nat) : AM := if ((A.ent d (p : Int)).isNone && !isNoneD (useW A d p)) = true then { A with ent := updN A.ent d (updI (A.ent d) (p : Int) (some (useW A d p))) } else A
/-- what an access gives, and what it leaves (the log apart) -/
inductive StepA (A : AM) (d : Nat) : Str → List PyData → PyData → AM → Prop
  | read {c : Nat} {x : PyData} (h : A.cells[c]? = some x) : StepA A d "read" [.int (c : Int)] x A
  | write {c : Nat} {v : PyData} (h : c < 70) (nl : noL v = true) (hw : ∀ d', d' < 2 → ∀ p, p < 6 → c = 56 + d' * 6 + p → v = .none ∨ wordF v) : StepA A d "write" [.int (c : Int), v] .none { A with cells := A.cells.set c v }
  | rNo {p i : Nat} (hp : p < 6) (h : useW A d p = .none) : StepA A d "dma read" [.int (p : Int), .int (i : Int)] .none A
  | rOff {p i f : Nat} {r : Str} (hp : p < 6) (h : useW A d p = .tuple [.int (f : Int), .str r]) (hr : r ≠ "r") : StepA A d "dma read" [.int (p : Int), .int (i : Int)] .none (useA A d p)
  | rYes {p i f : Nat} {x : PyData} (hp : p < 6) (h : useW A d p = .tuple [.int (f : Int), .str "r"]) (hx : A.cells[(d * 6 + f) * 4 + i]? = some x) : StepA A d "dma read" [.int (p : Int), .int (i : Int)] (.tuple [x]) (useA A d p)
  | wNo {p i : Nat} {v : PyData} (hp : p < 6) (h : useW A d p = .none) : StepA A d "dma write" [.int (p : Int), .int (i : Int), v] (.bool false) A
  | wOff {p i f : Nat} {r : Str} {v : PyData} (hp : p < 6) (h : useW A d p = .tuple [.int (f : Int), .str r]) (hr : r ≠ "w") : StepA A d "dma write" [.int (p : Int), .int (i : Int), v] (.bool false) (useA A d p)
  | wYes {p i f : Nat} {v : PyData} (hp : p < 6) (h : useW A d p = .tuple [.int (f : Int), .str "w"]) (hi : i < 4) (nl : noL v = true) : StepA A d "dma write" [.int (p : Int), .int (i : Int), v] (.bool true) { useA A d p with cells := A.cells.set ((d * 6 + f) * 4 + i) v }
  | command {p : Int} : StepA A d "command" [.int p] (.int (A.tix d + 1)) { A with tix := updN A.tix d (A.tix d + 1), que := updN A.que d (A.que d ++ [(p, A.tix d + 1)]) }
  | dropNo (h : A.que d = []) : StepA A d "drop" [] (.bool false) A
  | drop {p n : Int} {r : List (Int × Int)} (h : A.que d = (p, n) :: r) : StepA A d "drop" [] (.bool true) { A with que := updN A.que d r, ent := updN A.ent d (updI (A.ent d) p none), cells := A.cells.set (68 + d) (.int n) }
  | fetch {b : Nat} {x : PyData} {y z : Int} (h : (A.bl d)[b]? = some x) : StepA A d "fetch" [.int (b : Int), .int y, .int z] x A
  | commit {b : Nat} {v : PyData} {y z : Int} (hb : b < 8) (nl : noL v = true) : StepA A d "commit" [.int (b : Int), v, .int y, .int z] .none { A with bl := updN A.bl d ((A.bl d).set b v), jo := updN A.jo d (A.jo d ++ [.tuple [.int y, .int z]]) }
  | journal : StepA A d "journal" [] (.tuple (A.jo d)) A
  | tell {ds : List PyData} (nl : noLs ds = true) (hl : ds.length ≤ 100) : StepA A d "tell" [.tuple ds] .none { A with jo := updN A.jo d ds }
/-! ### an access, by data -/
theorem dpAll_set' {K : PySem.W.Frag} {H : Hp} : ∀ {vs : List V} {ds : List PyData} {i : Nat} {v : V} {d : PyData}, DpAll K H vs ds → Dp K H v d → DpAll K H (vs.set i v) (ds.set i d)
  | _, _, _, _, _, .nil, _ => .nil
  | _, _, 0, _, _, .cons _ t, h => .cons h t
  | _, _, i + 1, _, _, .cons a t, h => .cons a (dpAll_set' t h)
theorem noLs_set' : ∀ {ds : List PyData} {i : Nat} {d : PyData}, noLs ds = true → noL d = true → noLs (ds.set i d) = true
  | [], _, _, _, _ => rfl
  | x :: xs, 0, d, h, hd => by
    have := (and2 (show (noL x && noLs xs) = true from h)).2
    show (noL d && noLs xs) = true
    rw [hd, this]
    rfl
  | x :: xs, i + 1, d, h, hd => by
    obtain ⟨a, b⟩ := and2 (show (noL x && noLs xs) = true from h)
    show (noL x && noLs (xs.set i d)) = true
    rw [a, noLs_set' b hd]
    rfl
theorem dpAll_get' {K : PySem.W.Frag} {H : Hp} : ∀ {vs : List V} {ds : List PyData} {i : Nat} {d : PyData}, DpAll K H vs ds → ds[i]? = some d → ∃ v, vs[i]? = some v ∧ Dp K H v d
  | _, _, _, _, .nil, e => by simp at e
  | _, _, 0, _, .cons h _, e => by
    simp at e
    subst e
    exact ⟨_, rfl, h⟩
  | _, _, i + 1, d, .cons _ t, e => by
    obtain ⟨v, a, b⟩ := dpAll_get' (i := i) (d := d) t (by simpa using e)
    exact ⟨v, by simpa using a, b⟩
/-- the cells of a memory are written -/
theorem Abs.cells {K : PySem.W.Frag} {H : Hp} {L : ML} {M : MS} {A : AM} {c : Nat} {v : V} {dv : PyData} {N : Nat} (h : Abs K H L M A N) (hv : Dp K H v dv) (nl : noL dv = true)
    (hw : ∀ d', d' < 2 → ∀ p, p < 6 → c = 56 + d' * 6 + p → dv = .none ∨ wordF dv) :
    Abs K (upd H L.aC (.lst (M.cells.set c v))) L { M with cells := M.cells.set c v } { A with cells := A.cells.set c dv } N := by
  have ts : TSame K H (upd H L.aC (.lst (M.cells.set c v))) := TSame.lst h.mem.oc
  have cs : DpAll K (upd H L.aC (.lst (M.cells.set c v))) (M.cells.set c v) (A.cells.set c dv) := dpAll_set' (Rb.DpAll.ts ts _ _ h.cn h.cs) (Rb.Dp.ts ts _ _ nl hv)
  refine { mem := h.mem.wcells, ek := h.ek, cs := cs, cn := noLs_set' h.cn nl, c7 := by rw [List.length_set]; exact h.c7, en := fun d hd => (h.en d hd).ts (h.ew d hd) ts, ew := h.ew, tw := fun d hd p hp dd e => ?_, qu := fun d hd => Rb.DpAll.ts ts _ _ (noLs_cmd _) (h.qu d hd), ti := h.ti, jo := ?_, jn := h.jn, bs := fun d hd => Rb.DpAll.ts ts _ _ (h.bn d hd).1 (h.bs d hd), bn := h.bn, lg := Rb.DpAll.ts ts _ _ h.ln h.lg, ln := h.ln, ct := h.ct, s0 := h.s0, s1 := h.s1, s2 := h.s2, s3 := h.s3 }
  · have e : (A.cells.set c dv)[56 + d * 6 + p]? = some dd := e
    rw [List.getElem?_set] at e
    by_cases q : c = 56 + d * 6 + p
    · rw [if_pos q] at e
      split at e
      · injection e with e
        subst e
        exact hw d hd p hp q
      · cases e
    · rw [if_neg q] at e
      exact h.tw d hd p hp dd e
  · obtain ⟨j0, j1, e, ⟨xs, a, b⟩, ⟨ys, c, d⟩⟩ := h.jo
    exact ⟨j0, j1, e, ⟨xs, ts _ _ a, Rb.DpAll.ts ts _ _ (h.jn 0 (by decide)) b⟩, ⟨ys, ts _ _ c, Rb.DpAll.ts ts _ _ (h.jn 1 (by decide)) d⟩⟩
theorem keyG {g : Nat → GS} {d : Nat} {G : GS} (h : ∀ i, i < 2 → KeyI (g i).ents) (hG : KeyI G.ents) : ∀ i, i < 2 → KeyI (setG g d G i).ents := fun i hi => by
  by_cases q : i = d
  · subst q
    rw [setG_same]
    exact hG
  · rw [setG_ne q]
    exact h i hi
theorem Abs.mono {K : PySem.W.Frag} {H : Hp} {L : ML} {M : MS} {A : AM} {N N' : Nat} (h : Abs K H L M A N) (l : N ≤ N') : Abs K H L M A N' :=
  { h with s0 := Nat.le_trans h.s0 l, s1 := fun d hd => Nat.le_trans (h.s1 d hd) l, s2 := fun d hd => Nat.le_trans (h.s2 d hd) l, s3 := fun d hd => Nat.le_trans (h.s3 d hd) (Nat.add_le_add_right l 100) }
theorem StepA.log {A A2 : AM} {d : Nat} {wd : Str} {ds : List PyData} {rd : PyData} (h : StepA A d wd ds rd A2) : A2.log = A.log := by
  have u : ∀ p, (useA A d p).log = A.log := fun p => by
    unfold useA
    split <;> rfl
  cases h <;> first | rfl | exact u _
theorem useA_cells {A : AM} {d p : Nat} : (useA A d p).cells = A.cells := by
  unfold useA
  split <;> rfl
/-- the word of a use -/
theorem Abs.word {K : PySem.W.Frag} {H : Hp} {L : ML} {M : MS} {A : AM} {N : Nat} (h : Abs K H L M A N) {d p : Nat} (hd : d < 2) (hp : p < 6) :
    ∃ wv, M.cells[56 + d * 6 + p]? = some wv ∧ Dp K H ((valV (M.gs d).ents (Sum.inl (p : Int))).getD wv) (useW A d p) ∧ (valV (M.gs d).ents (Sum.inl (p : Int)) = none ↔ A.ent d (p : Int) = none) ∧ (wv = .non ↔ A.cells[56 + d * 6 + p]?.getD .none = .none) := by
  have hl : 56 + d * 6 + p < A.cells.length := by
    rw [h.c7]
    omega
  have hx : A.cells[56 + d * 6 + p]? = some A.cells[56 + d * 6 + p] := List.getElem?_eq_getElem hl
  obtain ⟨wv, e1, e2⟩ := dpAll_get' h.cs hx
  have hn : wv = .non ↔ A.cells[56 + d * 6 + p]?.getD .none = .none := by
    rw [hx]
    show wv = .non ↔ A.cells[56 + d * 6 + p] = .none
    generalize A.cells[56 + d * 6 + p] = z at e2
    cases e2 <;> simp
  refine ⟨wv, e1, ?_, ?_, hn⟩
  · unfold useW
    rcases h.en d hd (p : Int) with ⟨q1, q2⟩ | ⟨v, dd, q1, q2, q3⟩
    · rw [q1, q2, hx]
      exact e2
    · rw [q1, q2]
      exact q3
  · rcases h.en d hd (p : Int) with ⟨q1, q2⟩ | ⟨v, dd, q1, q2, q3⟩
    · rw [q1, q2]
      simp
    · rw [q1, q2]
      simp
/-- .. is one -/
theorem Abs.wordIs {K : PySem.W.Frag} {H : Hp} {L : ML} {M : MS} {A : AM} {N : Nat} (h : Abs K H L M A N) {d p : Nat} (hd : d < 2) (hp : p < 6) : useW A d p = .none ∨ wordF (useW A d p) := by
  unfold useW
  cases e : A.ent d (p : Int) with
  | some dd => exact .inr (h.ew d hd _ _ e)
  | none =>
    have hl : 56 + d * 6 + p < A.cells.length := by
      rw [h.c7]
      omega
    have hx : A.cells[56 + d * 6 + p]? = some A.cells[56 + d * 6 + p] := List.getElem?_eq_getElem hl
    rw [hx]
    exact h.tw d hd p hp _ hx
/-- a memory behind a use -/
theorem Abs.use {K : PySem.W.Frag} {H H' : Hp} {L : ML} {M : MS} {A : AM} {N : Nat} (h : Abs K H L M A N) {d p : Nat} {wv : V} (hd : d < 2) (hp : p < 6) (hw : M.cells[56 + d * 6 + p]? = some wv)
    (m : MemAt (CM K) (CG K) L H' { M with gs := useG M d (p : Int) wv }) (ts : TSame K H H') : Abs K H' L { M with gs := useG M d (p : Int) wv } (useA A d p) (N + 1) := by
  obtain ⟨wv', e1, hW, hn, hz⟩ := h.word hd hp
  have ew : wv' = wv := by
    rw [hw] at e1
    exact (Option.some.inj e1).symm
  subst ew
  have hwi := h.wordIs hd hp
  have h' := (h.move (H' := H') (L := L) (M := M) (A := A) (N := N))
  have jo : ∃ j0 j1, M.jo = [.ref j0, .ref j1] ∧ (∃ xs, SqT K H' j0 xs ∧ DpAll K H' xs (A.jo 0)) ∧ (∃ xs, SqT K H' j1 xs ∧ DpAll K H' xs (A.jo 1)) := by
    obtain ⟨j0, j1, e, ⟨xs, a, b⟩, ⟨ys, c, d⟩⟩ := h.jo
    exact ⟨j0, j1, e, ⟨xs, ts _ _ a, Rb.DpAll.ts ts _ _ (h.jn 0 (by decide)) b⟩, ⟨ys, ts _ _ c, Rb.DpAll.ts ts _ _ (h.jn 1 (by decide)) d⟩⟩
  have gq : ∀ i, (useG M d (p : Int) wv' i).que = (M.gs i).que ∧ (useG M d (p : Int) wv' i).tix = (M.gs i).tix := fun i => by
    unfold useG
    by_cases q : i = d
    · subst q
      rw [setG_same]
      exact ⟨rfl, rfl⟩
    · rw [setG_ne q]
      exact ⟨rfl, rfl⟩
  have ge : (useG M d (p : Int) wv' d).ents = useE (M.gs d).ents (p : Int) wv' := by
    unfold useG
    rw [setG_same]
  have gn : ∀ i, i ≠ d → (useG M d (p : Int) wv' i).ents = (M.gs i).ents := fun i q => by
    unfold useG
    rw [setG_ne q]
  have gl : ∀ i, i < 2 → (useG M d (p : Int) wv' i).ents.length ≤ N + 1 := fun i hi => by
    by_cases q : i = d
    · subst q
      rw [ge]
      unfold useE
      split
      · exact Nat.le_trans (length_putK _ _ _) (Nat.succ_le_succ (h.s1 i hi))
      · exact Nat.le_succ_of_le (h.s1 i hi)
    · rw [gn i q]
      exact Nat.le_succ_of_le (h.s1 i hi)
  have kee : ∀ i, i < 2 → KeyI (useG M d (p : Int) wv' i).ents := fun i hi => by
    by_cases q : i = d
    · subst q
      rw [ge]
      unfold useE
      split
      · exact (h.ek i hi).put (by omega) (by omega)
      · exact h.ek i hi
    · rw [gn i q]
      exact h.ek i hi
  -- the entries and what they tell
  have key : (∀ i, i < 2 → EntR K H' (useG M d (p : Int) wv' i).ents ((useA A d p).ent i)) ∧ (∀ i, i < 2 → ∀ q dd, (useA A d p).ent i q = some dd → wordF dd) := by
    by_cases c : ((A.ent d (p : Int)).isNone && !isNoneD (useW A d p)) = true
    · obtain ⟨c1, c2⟩ := and2 c
      have c1' : A.ent d (p : Int) = none := Option.isNone_iff_eq_none.mp c1
      have c2' : useW A d p ≠ .none := fun z => by rw [z] at c2; cases c2
      have eu : useW A d p = A.cells[56 + d * 6 + p]?.getD .none := by
        unfold useW
        rw [c1']
        rfl
      have nw : wv' ≠ .non := fun z => c2' (by rw [eu]; exact hz.mp z)
      have vn : valV (M.gs d).ents (Sum.inl (p : Int)) = none := hn.mpr c1'
      have ee : useE (M.gs d).ents (p : Int) wv' = putK (M.gs d).ents (Sum.inl (p : Int)) wv' := by
        unfold useE
        rw [if_pos ⟨vn, nw⟩]
      have eA : (useA A d p).ent = updN A.ent d (updI (A.ent d) (p : Int) (some (useW A d p))) := by
        unfold useA
        rw [if_pos c]
      have wf := hwi.resolve_left c2'
      rw [vn] at hW
      refine ⟨fun i hi => ?_, fun i hi q dd e => ?_⟩
      · by_cases q : i = d
        · subst q
          rw [ge, ee, eA, updN_same]
          intro x
          rw [valV_put]
          unfold updI
          by_cases qx : x = (p : Int)
          · subst qx
            rw [if_pos rfl, if_pos rfl]
            exact .inr ⟨wv', _, rfl, rfl, Rb.Dp.ts ts _ _ wf.nl hW⟩
          · rw [if_neg (fun z => qx (by injection z)), if_neg qx]
            exact (h.en i hi).ts (h.ew i hi) ts x
        · rw [gn i q, eA, updN_ne q]
          exact (h.en i hi).ts (h.ew i hi) ts
      · rw [eA] at e
        by_cases q2 : i = d
        · subst q2
          rw [updN_same] at e
          unfold updI at e
          split at e
          · injection e with e
            subst e
            exact wf
          · exact h.ew i hi _ _ e
        · rw [updN_ne q2] at e
          exact h.ew i hi _ _ e
    · have eA : useA A d p = A := by
        unfold useA
        rw [if_neg c]
      have ee : useE (M.gs d).ents (p : Int) wv' = (M.gs d).ents := by
        unfold useE
        rw [if_neg]
        rintro ⟨z1, z2⟩
        apply c
        have c1' := hn.mp z1
        rw [c1']
        have eu : useW A d p = A.cells[56 + d * 6 + p]?.getD .none := by
          unfold useW
          rw [c1']
          rfl
        have : useW A d p ≠ .none := fun z => z2 (hz.mpr (by rw [← eu]; exact z))
        cases q : useW A d p with
        | none => exact absurd q this
        | _ => rfl
      rw [eA]
      refine ⟨fun i hi => ?_, h.ew⟩
      by_cases q : i = d
      · subst q
        rw [ge, ee]
        exact (h.en i hi).ts (h.ew i hi) ts
      · rw [gn i q]
        exact (h.en i hi).ts (h.ew i hi) ts
  have eq2 : (useA A d p).cells = A.cells ∧ (useA A d p).que = A.que ∧ (useA A d p).tix = A.tix ∧ (useA A d p).jo = A.jo ∧ (useA A d p).bl = A.bl ∧ (useA A d p).log = A.log := by
    unfold useA
    split <;> exact ⟨rfl, rfl, rfl, rfl, rfl, rfl⟩
  obtain ⟨a1, a2, a3, a4, a5, a6⟩ := eq2
  exact { mem := m, ek := kee, cs := by rw [a1]; exact Rb.DpAll.ts ts _ _ h.cn h.cs, cn := by rw [a1]; exact h.cn, c7 := by rw [a1]; exact h.c7, en := key.1, ew := key.2, tw := by rw [a1]; exact h.tw,
          qu := fun i hi => by
            rw [a2]
            show DpAll K H' (useG M d (p : Int) wv' i).que _
            rw [(gq i).1]
            exact Rb.DpAll.ts ts _ _ (noLs_cmd _) (h.qu i hi),
          ti := fun i hi => by
            rw [a3]
            show (useG M d (p : Int) wv' i).tix = _
            rw [(gq i).2]
            exact h.ti i hi,
          jo := by rw [a4]; exact jo, jn := by rw [a4]; exact h.jn, bs := fun i hi => by rw [a5]; exact Rb.DpAll.ts ts _ _ (h.bn i hi).1 (h.bs i hi), bn := by rw [a5]; exact h.bn, lg := by rw [a6]; exact Rb.DpAll.ts ts _ _ h.ln h.lg, ln := by rw [a6]; exact h.ln, ct := by rw [a6]; exact h.ct,
          s0 := by rw [a6]; exact Nat.le_succ_of_le h.s0, s1 := gl, s2 := by rw [a2]; exact fun i hi => Nat.le_succ_of_le (h.s2 i hi), s3 := by rw [a4]; exact fun i hi => Nat.le_trans (h.s3 i hi) (by omega) }
end Rb
namespace Rb
open PySem PySem.Spec PyProof.Rows L2
theorem noLs_at : ∀ {ds : List PyData} {i : Nat} {d : PyData}, noLs ds = true → ds[i]? = some d → noL d = true
  | [], _, _, _, e => by simp at e
  | x :: xs, 0, d, h, e => by
    simp at e
    subst e
    exact (and2 (show (noL x && noLs xs) = true from h)).1
  | x :: xs, i + 1, d, h, e => noLs_at (i := i) (and2 (show (noL x && noLs xs) = true from h)).2 (by simpa using e)
theorem dp_non {K : PySem.W.Frag} {H : Hp} {v : V} (h : Dp K H v .none) : v = .non := by
  cases h
  rfl
theorem dp_word {K : PySem.W.Frag} {H : Hp} {v : V} {f : Int} {r : Str} (h : Dp K H v (.tuple [.int f, .str r])) : ∃ t, v = .ref t ∧ SqT K H t [.int f, .str r] := by
  cases h with
  | @tup a xs ds hs ha =>
    cases ha with
    | cons h1 h2 =>
      cases h1
      cases h2 with
      | cons h3 h4 =>
        cases h3
        cases h4
        exact ⟨a, rfl, hs⟩
theorem dp_cmd {K : PySem.W.Frag} {H : Hp} {v : V} {f r : Int} (h : Dp K H v (.tuple [.int f, .int r])) : ∃ t, v = .ref t ∧ SqT K H t [.int f, .int r] := by
  cases h with
  | @tup a xs ds hs ha =>
    cases ha with
    | cons h1 h2 =>
      cases h1
      cases h2 with
      | cons h3 h4 =>
        cases h3
        cases h4
        exact ⟨a, rfl, hs⟩
theorem inC {L : ML} : L.aC ∈ L.all := by simp [ML.all]
theorem inJ {L : ML} : L.aJ ∈ L.all := by simp [ML.all]
theorem KL.eq {L : ML} {H H' : Hp} (k : ∀ b, b ∉ L.all → H' b = H b) : KL L H H' := fun b o h n => (k b n).trans h
theorem valV_drop_same {kvs : List (Key × V)} {k : Key} : valV (dropK kvs k) k = none := by
  cases e : valV (dropK kvs k) k with
  | none => rfl
  | some v =>
    have := valV_in e
    obtain ⟨a, ha, hk⟩ := List.mem_map.mp this
    have h2 := (List.mem_filter.mp ha).2
    rw [hk] at h2
    simp at h2
theorem valV_drop_ne {k j : Key} (h : j ≠ k) : ∀ {kvs : List (Key × V)}, valV (dropK kvs k) j = valV kvs j
  | [] => rfl
  | p :: r => by
    have ih := valV_drop_ne (k := k) (j := j) h (kvs := r)
    unfold dropK at ih ⊢
    rw [List.filter_cons]
    by_cases c : p.1 = k
    · rw [if_neg (by simp [c]), ih, valV_neg (fun z => h (z.symm.trans c))]
    · rw [if_pos (by simp [c])]
      by_cases c2 : p.1 = j
      · rw [valV_pos c2, valV_pos c2]
      · rw [valV_neg c2, valV_neg c2, ih]
/-- what a request brings, by data -/
theorem step_res {K : PySem.W.Frag} {H : Hp} {L : ML} {M : MS} {A A2 : AM} {N d : Nat} {wd : Str} {xs : List V} {ds : List PyData} {rd : PyData} {Q : VK} (hA : Abs K H L M A N) (hd : d < 2) (hN : N < 3000)
    (st : StepA A d wd ds rd A2) (hD : DpAll K H xs ds)
    (fin : ∀ r H2 M2, Abs K H2 L M2 A2 (N + 1) → Dp K H2 r rd → noL rd = true → KL L H H2 → Q r H2) : ResP K L M d H Q wd xs := by
  have len : M.cells.length = 70 := by
    rw [Rb.DpAll.len hA.cs]
    exact hA.c7
  have hents : (M.gs d).ents.length < 4000 := Nat.lt_of_le_of_lt (hA.s1 d hd) (by omega)
  have hA1 := hA.mono (Nat.le_succ N)
  cases st with
  | @read c x h =>
    cases hD with
    | cons h1 h2 =>
      cases h1
      cases h2
      obtain ⟨v, e, hv⟩ := dpAll_get' hA.cs h
      exact .read e (fin v H M hA1 hv (noLs_at hA.cn h) KL.refl)
  | @write c v h nl hw =>
    cases hD with
    | cons h1 h2 =>
      cases h1
      cases h2 with
      | cons h3 h4 =>
        cases h4
        exact .write (by omega) (fin .non _ _ (hA1.cells h3 nl hw) .non rfl (KL.refl.upd inC))
  | @rNo p i hp h =>
    cases hD with
    | cons h1 h2 =>
      cases h1
      cases h2 with
      | cons h3 h4 =>
        cases h3
        cases h4
        obtain ⟨wv, e1, hW, _, _⟩ := hA.word hd hp
        rw [h] at hW
        exact .dmaRead ⟨L, M, d, p, i, wv, rfl, hA.mem, hd, e1, hents, .inl ⟨dp_non hW, fin .non H M hA1 .non rfl KL.refl⟩⟩
  | @rOff p i f r hp h hr =>
    cases hD with
    | cons h1 h2 =>
      cases h1
      cases h2 with
      | cons h3 h4 =>
        cases h3
        cases h4
        obtain ⟨wv, e1, hW, _, _⟩ := hA.word hd hp
        rw [h] at hW
        obtain ⟨t, et, hq⟩ := dp_word hW
        refine .dmaRead ⟨L, M, d, p, i, wv, rfl, hA.mem, hd, e1, hents, .inr ⟨t, f, r, et, hq, fun H' m k => ⟨fun _ => ?_, fun z => absurd z hr⟩⟩⟩
        exact fin .non H' _ (hA.use hd hp e1 m ((KL.eq k).ts hA.mem)) .non rfl (KL.eq k)
  | @rYes p i f x hp h hx =>
    cases hD with
    | cons h1 h2 =>
      cases h1
      cases h2 with
      | cons h3 h4 =>
        cases h3
        cases h4
        obtain ⟨wv, e1, hW, _, _⟩ := hA.word hd hp
        rw [h] at hW
        obtain ⟨t, et, hq⟩ := dp_word hW
        refine .dmaRead ⟨L, M, d, p, i, wv, rfl, hA.mem, hd, e1, hents, .inr ⟨t, f, "r", et, hq, fun H' m k => ⟨fun z => absurd rfl z, fun _ => ⟨?_, fun q v ev hq' => ?_⟩⟩⟩⟩
        · rw [len, ← hA.c7]
          exact (List.getElem?_eq_some_iff.mp hx).1
        · obtain ⟨v', ev', hv⟩ := dpAll_get' hA.cs hx
          have e : v' = v := by
            have ev : M.cells[(d * 6 + f) * 4 + i]? = some v := ev
            rw [ev'] at ev
            exact Option.some.inj ev
          subst e
          have a2 := hA.use hd hp e1 m ((KL.eq k).ts hA.mem)
          have s := Same.new (o := HO.tup [v']) (Same.refl H') hq'
          have nx := noLs_at hA.cn hx
          refine fin (.ref q) _ _ (a2.same s) (.tup (SqT.of upd_same) (.cons (Rb.Dp.same s _ _ (Rb.Dp.ts ((KL.eq k).ts hA.mem) _ _ nx hv)) .nil)) ?_ ((KL.eq k).trans (KL.of s))
          show (noL x && true) = true
          rw [nx]
          rfl
  | @wNo p i v hp h =>
    cases hD with
    | cons h1 h2 =>
      cases h1
      cases h2 with
      | cons h3 h4 =>
        cases h3
        cases h4 with
        | cons h5 h6 =>
          cases h6
          obtain ⟨wv, e1, hW, _, _⟩ := hA.word hd hp
          rw [h] at hW
          exact .dmaWrite ⟨_, L, M, d, p, i, wv, rfl, hA.mem, hd, e1, hents, .inl ⟨dp_non hW, fin (.bl false) H M hA1 (.bl _) rfl KL.refl⟩⟩
  | @wOff p i f r v hp h hr =>
    cases hD with
    | cons h1 h2 =>
      cases h1
      cases h2 with
      | cons h3 h4 =>
        cases h3
        cases h4 with
        | cons h5 h6 =>
          cases h6
          obtain ⟨wv, e1, hW, _, _⟩ := hA.word hd hp
          rw [h] at hW
          obtain ⟨t, et, hq⟩ := dp_word hW
          refine .dmaWrite ⟨_, L, M, d, p, i, wv, rfl, hA.mem, hd, e1, hents, .inr ⟨t, f, r, et, hq, fun H' m k => ⟨fun _ => ?_, fun z => absurd z hr⟩⟩⟩
          exact fin (.bl false) H' _ (hA.use hd hp e1 m ((KL.eq k).ts hA.mem)) (.bl _) rfl (KL.eq k)
  | @wYes p i f v hp h hi nl =>
    cases hD with
    | cons h1 h2 =>
      cases h1
      cases h2 with
      | cons h3 h4 =>
        cases h3
        cases h4 with
        | cons h5 h6 =>
          cases h6
          obtain ⟨wv, e1, hW, _, _⟩ := hA.word hd hp
          have hwi := hA.wordIs hd hp
          rw [h] at hW hwi
          obtain ⟨t, et, hq⟩ := dp_word hW
          have hf : f < 6 := by
            rcases hwi with z | ⟨f', r', e, hf, _⟩
            · cases z
            · injection e with e
              injection e with e _
              injection e with e
              omega
          refine .dmaWrite ⟨_, L, M, d, p, i, wv, rfl, hA.mem, hd, e1, hents, .inr ⟨t, f, "w", et, hq, fun H' m k => ⟨fun z => absurd rfl z, fun _ => ⟨by rw [len]; omega, ?_⟩⟩⟩⟩
          have ts : TSame K H H' := (KL.eq k).ts hA.mem
          have a2 := hA.use hd hp e1 m ts
          have a3 := a2.cells (c := (d * 6 + f) * 4 + i) (Rb.Dp.ts ts _ _ nl h5) nl (fun d' hd' p' hp' e => by omega)
          rw [useA_cells] at a3
          exact fin (.bl true) _ _ a3 (.bl _) rfl ((KL.eq k).upd inC)
  | @command p =>
    cases hD with
    | cons h1 h2 =>
      cases h1
      cases h2
      have G := hA.mem.gu d hd
      obtain ⟨_, ndg, _⟩ := ML.apart hd hA.mem.nd
      have eti := hA.ti d hd
      have hql : (M.gs d).que.length = (A.que d).length := by
        rw [Rb.DpAll.len (hA.qu d hd), List.length_map]
      refine .command ⟨L.gs d, M.gs d, p, rfl, G, ndg, by rw [hql]; exact Nat.lt_of_le_of_lt (hA.s2 d hd) (by omega), fun t H' ht hG et k => ?_⟩
      have ht0 := hA.mem.nin ht
      have hM' := hA.mem.guard hd hG fun b hb hb2 => k b hb2 fun z => ht0 (z ▸ hb)
      have kl : KL L H H' := fun b o hb hn => (k b (fun z => hn (ML.in_g hd z)) (ne_of_none hb ht)).trans hb
      have ts : TSame K H H' := kl.ts hA.mem
      have a2 := hA1.move (H' := H') (M := M) (L := L)
      obtain ⟨j0, j1, ej, ⟨ys, ja, jb⟩, ⟨zs, jc, jd⟩⟩ := hA1.jo
      refine fin _ H' _ { mem := hM', ek := keyG hA.ek (hA.ek d hd), cs := Rb.DpAll.ts ts _ _ hA.cn hA.cs, cn := hA.cn, c7 := hA.c7, en := fun i hi => ?_, ew := hA.ew, tw := hA.tw, qu := fun i hi => ?_, ti := fun i hi => ?_, jo := ⟨j0, j1, ej, ⟨ys, ts _ _ ja, Rb.DpAll.ts ts _ _ (hA.jn 0 (by decide)) jb⟩, ⟨zs, ts _ _ jc, Rb.DpAll.ts ts _ _ (hA.jn 1 (by decide)) jd⟩⟩, jn := hA.jn, bs := fun i hi => Rb.DpAll.ts ts _ _ (hA.bn i hi).1 (hA.bs i hi), bn := hA.bn, lg := Rb.DpAll.ts ts _ _ hA.ln hA.lg, ln := hA.ln, ct := hA.ct, s0 := hA1.s0, s1 := fun i hi => ?_, s2 := fun i hi => ?_, s3 := hA1.s3 } ?_ rfl kl
      · show EntR K H' (setG M.gs d _ i).ents _
        by_cases q : i = d
        · subst q
          rw [setG_same]
          exact (hA.en i hi).ts (hA.ew i hi) ts
        · rw [setG_ne q]
          exact (hA.en i hi).ts (hA.ew i hi) ts
      · show DpAll K H' (setG M.gs d _ i).que ((updN A.que d _ i).map cmdD)
        by_cases q : i = d
        · subst q
          rw [setG_same, updN_same, List.map_append]
          refine Rb.DpAll.app (Rb.DpAll.ts ts _ _ (noLs_cmd _) (hA.qu i hi)) (.cons ?_ .nil)
          rw [eti] at et
          exact .tup (SqT.of et) (.cons (.int _) (.cons (.int _) .nil))
        · rw [setG_ne q, updN_ne q]
          exact Rb.DpAll.ts ts _ _ (noLs_cmd _) (hA.qu i hi)
      · show (setG M.gs d _ i).tix = updN A.tix d _ i
        by_cases q : i = d
        · subst q
          rw [setG_same, updN_same]
          show (M.gs i).tix + 1 = _
          rw [eti]
        · rw [setG_ne q, updN_ne q]
          exact hA.ti i hi
      · show (setG M.gs d _ i).ents.length ≤ N + 1
        by_cases q : i = d
        · subst q
          rw [setG_same]
          exact hA1.s1 i hi
        · rw [setG_ne q]
          exact hA1.s1 i hi
      · show (updN A.que d _ i).length ≤ N + 1
        by_cases q : i = d
        · subst q
          rw [updN_same, List.length_append]
          exact Nat.succ_le_succ (hA.s2 i hi)
        · rw [updN_ne q]
          exact hA1.s2 i hi
      · rw [eti]
        exact .int _
  | dropNo h =>
    cases hD
    have e : (M.gs d).que = [] := by
      have := hA.qu d hd
      rw [h] at this
      cases hx : (M.gs d).que with
      | nil => rfl
      | cons a b =>
        rw [hx] at this
        cases this
    exact .drop ⟨L, M, d, rfl, hA.mem, hd, len, .inl ⟨e, fin (.bl false) H M hA1 (.bl _) rfl KL.refl⟩⟩
  | @drop p n r h =>
    cases hD
    have hq := hA.qu d hd
    rw [h] at hq
    cases hx : (M.gs d).que with
    | nil =>
      rw [hx] at hq
      cases hq
    | cons a b =>
      rw [hx] at hq
      cases hq with
      | cons h1 h2 =>
        obtain ⟨t, rfl, ht⟩ := dp_cmd h1
        refine .drop ⟨L, M, d, rfl, hA.mem, hd, len, .inr ⟨t, p, n, b, hx, ht, fun H' m k => ?_⟩⟩
        have kl : KL L H H' := KL.eq k
        have ts : TSame K H H' := kl.ts hA.mem
        obtain ⟨j0, j1, ej, ⟨ys, ja, jb⟩, ⟨zs, jc, jd⟩⟩ := hA1.jo
        have ge : (dropG M d p b d) = { M.gs d with que := b, ents := dropK (M.gs d).ents (Sum.inl p) } := by
          unfold dropG
          rw [setG_same]
        have gn : ∀ i, i ≠ d → dropG M d p b i = M.gs i := fun i q => by
          unfold dropG
          rw [setG_ne q]
        refine fin (.bl true) H' _ { mem := m, ek := keyG (g := M.gs) hA.ek (KeyI.drop (hA.ek d hd)), cs := dpAll_set' (Rb.DpAll.ts ts _ _ hA.cn hA.cs) (.int n), cn := noLs_set' hA.cn rfl, c7 := by show (A.cells.set _ _).length = 70; rw [List.length_set]; exact hA.c7, en := fun i hi => ?_, ew := fun i hi q dd e => ?_, tw := fun i hi q hq dd e => ?_, qu := fun i hi => ?_, ti := fun i hi => ?_, jo := ⟨j0, j1, ej, ⟨ys, ts _ _ ja, Rb.DpAll.ts ts _ _ (hA.jn 0 (by decide)) jb⟩, ⟨zs, ts _ _ jc, Rb.DpAll.ts ts _ _ (hA.jn 1 (by decide)) jd⟩⟩, jn := hA.jn, bs := fun i hi => Rb.DpAll.ts ts _ _ (hA.bn i hi).1 (hA.bs i hi), bn := hA.bn, lg := Rb.DpAll.ts ts _ _ hA.ln hA.lg, ln := hA.ln, ct := hA.ct, s0 := hA1.s0, s1 := fun i hi => ?_, s2 := fun i hi => ?_, s3 := hA1.s3 } (.bl _) rfl kl
        · show EntR K H' (dropG M d p b i).ents (updN A.ent d _ i)
          by_cases q : i = d
          · subst q
            rw [ge, updN_same]
            intro x
            unfold updI
            by_cases qx : x = p
            · subst qx
              rw [if_pos rfl]
              exact .inl ⟨valV_drop_same, rfl⟩
            · rw [if_neg qx]
              show (valV (dropK _ _) _ = none ∧ _) ∨ _
              rw [valV_drop_ne (fun z => qx (by injection z))]
              exact (hA.en i hi).ts (hA.ew i hi) ts x
          · rw [gn i q, updN_ne q]
            exact (hA.en i hi).ts (hA.ew i hi) ts
        · have e : updN A.ent d (updI (A.ent d) p none) i q = some dd := e
          by_cases q2 : i = d
          · subst q2
            rw [updN_same] at e
            unfold updI at e
            split at e
            · cases e
            · exact hA.ew i hi _ _ e
          · rw [updN_ne q2] at e
            exact hA.ew i hi _ _ e
        · have e : (A.cells.set (68 + d) (.int n))[56 + i * 6 + q]? = some dd := e
          rw [List.getElem?_set, if_neg (by omega)] at e
          exact hA.tw i hi q hq dd e
        · show DpAll K H' (dropG M d p b i).que ((updN A.que d r i).map cmdD)
          by_cases q : i = d
          · subst q
            rw [ge, updN_same]
            exact Rb.DpAll.ts ts _ _ (noLs_cmd _) h2
          · rw [gn i q, updN_ne q]
            exact Rb.DpAll.ts ts _ _ (noLs_cmd _) (hA.qu i hi)
        · show (dropG M d p b i).tix = A.tix i
          by_cases q : i = d
          · subst q
            rw [ge]
            exact hA.ti i hi
          · rw [gn i q]
            exact hA.ti i hi
        · show (dropG M d p b i).ents.length ≤ N + 1
          by_cases q : i = d
          · subst q
            rw [ge]
            exact Nat.le_trans (List.length_filter_le _ _) (hA1.s1 i hi)
          · rw [gn i q]
            exact hA1.s1 i hi
        · show (updN A.que d r i).length ≤ N + 1
          by_cases q : i = d
          · subst q
            rw [updN_same]
            have := hA1.s2 i hi
            rw [h] at this
            exact Nat.le_trans (Nat.le_succ _) this
          · rw [updN_ne q]
            exact hA1.s2 i hi
  | @fetch b x y z h =>
    cases hD with
    | cons h1 h2 =>
      cases h1
      cases h2 with
      | cons h3 h4 =>
        cases h3
        cases h4 with
        | cons h5 h6 =>
          cases h5
          cases h6
          obtain ⟨v, e, hv⟩ := dpAll_get' (hA.bs d hd) h
          exact .fetch e (fin v H M hA1 hv (noLs_at (hA.bn d hd).1 h) KL.refl)
  | @commit b v y z hb nl =>
    cases hD with
    | cons h1 h2 =>
      cases h1
      cases h2 with
      | cons h3 h4 =>
        cases h4 with
        | cons h5 h6 =>
          cases h5
          cases h6 with
          | cons h7 h8 =>
            cases h7
            cases h8
            rename_i vv
            obtain ⟨j0, j1, ej, ⟨ys, ja, jb⟩, ⟨zs, jc, jd⟩⟩ := hA.jo
            obtain ⟨j, js, ejd, hjs, hjd⟩ : ∃ j js, M.jo[d]? = some (.ref j) ∧ SqT K H j js ∧ DpAll K H js (A.jo d) := by
              rw [ej]
              rcases lt2 hd with rfl | rfl
              · exact ⟨j0, ys, rfl, ja, jb⟩
              · exact ⟨j1, zs, rfl, jc, jd⟩
            have hbl : (M.bl d).length = 8 := by
              rw [Rb.DpAll.len (hA.bs d hd)]
              exact (hA.bn d hd).2
            refine .commit (by omega) ejd hjs ?_ fun t u ht hu ut => ?_
            · rw [Rb.DpAll.len hjd]
              exact Nat.lt_of_le_of_lt (hA.s3 d hd) (by omega)
            · have m1 := hA.mem.wbl (xs := (M.bl d).set b vv) hd
              have ts1 : TSame K H (upd H (L.bl d) (.lst ((M.bl d).set b vv))) := TSame.lst (hA.mem.obl d hd)
              have nbd : L.bl d ∈ L.all := ML.in_b hd
              have t1 : (upd H (L.bl d) (.lst ((M.bl d).set b vv))) t = none := by
                rw [upd_ne (fun z => hA.mem.nin ht (by rw [z]; exact nbd))]
                exact ht
              have m2 := m1.new (o := .tup [V.int y, .int z]) t1
              have s2 := Same.new (o := HO.tup [V.int y, .int z]) (Same.refl _) t1
              have u1 : (upd (upd H (L.bl d) (.lst ((M.bl d).set b vv))) t (.tup [V.int y, .int z])) u = none := by
                rw [upd_ne ut, upd_ne (fun z => hA.mem.nin hu (by rw [z]; exact nbd))]
                exact hu
              have m3 := m2.new (o := .tup (js ++ [.ref t])) u1
              have s3 := Same.new (o := HO.tup (js ++ [.ref t])) (Same.refl _) u1
              have m4 := m3.wjo (xs := M.jo.set d (.ref u))
              have ts4 : TSame K _ (upd (upd (upd (upd H (L.bl d) (.lst ((M.bl d).set b vv))) t (.tup [V.int y, .int z])) u (.tup (js ++ [.ref t]))) L.aJ (.lst (M.jo.set d (.ref u)))) := TSame.lst m3.oj
              have ts : TSame K H _ := (ts1.trans (TSame.same (s2.trans s3))).trans ts4
              have kl : KL L H (upd (upd (upd (upd H (L.bl d) (.lst ((M.bl d).set b vv))) t (.tup [V.int y, .int z])) u (.tup (js ++ [.ref t]))) L.aJ (.lst (M.jo.set d (.ref u)))) := (((KL.refl.upd nbd).new t1).new u1).upd inJ
              have hu4 := ts4 _ _ (SqT.of (upd_same (H := upd (upd H (L.bl d) (.lst ((M.bl d).set b vv))) t (.tup [V.int y, .int z])) (a := u) (o := HO.tup (js ++ [.ref t]))))
              have ht4 := ts4 _ _ (Same.seqT s3 (SqT.of (upd_same (H := upd H (L.bl d) (.lst ((M.bl d).set b vv))) (a := t) (o := HO.tup [V.int y, .int z]))))
              have jnew := Rb.DpAll.app (Rb.DpAll.ts ts _ _ (hA.jn d hd) hjd) (DpAll.cons (Dp.tup ht4 (.cons (.int y) (.cons (.int z) .nil))) .nil)
              refine fin .non _ _ { mem := m4, ek := hA.ek, cs := Rb.DpAll.ts ts _ _ hA.cn hA.cs, cn := hA.cn, c7 := hA.c7, en := fun i hi => (hA.en i hi).ts (hA.ew i hi) ts, ew := hA.ew, tw := hA.tw, qu := fun i hi => Rb.DpAll.ts ts _ _ (noLs_cmd _) (hA.qu i hi), ti := hA.ti, jo := ?_, jn := fun i hi => ?_, bs := fun i hi => ?_, bn := fun i hi => ?_, lg := Rb.DpAll.ts ts _ _ hA.ln hA.lg, ln := hA.ln, ct := hA.ct, s0 := hA1.s0, s1 := hA1.s1, s2 := hA1.s2, s3 := fun i hi => ?_ } .non rfl kl
              · rcases lt2 hd with rfl | rfl
                · refine ⟨u, j1, by show M.jo.set 0 (.ref u) = _; rw [ej]; rfl, ⟨_, hu4, by simpa [updN] using jnew⟩, ⟨zs, ts _ _ jc, by simpa [updN] using Rb.DpAll.ts ts _ _ (hA.jn 1 (by decide)) jd⟩⟩
                · refine ⟨j0, u, by show M.jo.set 1 (.ref u) = _; rw [ej]; rfl, ⟨ys, ts _ _ ja, by simpa [updN] using Rb.DpAll.ts ts _ _ (hA.jn 0 (by decide)) jb⟩, ⟨_, hu4, by simpa [updN] using jnew⟩⟩
              · show noLs (updN A.jo d _ i) = true
                by_cases q : i = d
                · subst q
                  rw [updN_same, noLs_app, hA.jn i hi]
                  rfl
                · rw [updN_ne q]
                  exact hA.jn i hi
              · show DpAll K _ (setB M.bl d ((M.bl d).set b vv) i) (updN A.bl d _ i)
                by_cases q : i = d
                · subst q
                  rw [updN_same]
                  unfold setB
                  rw [if_pos rfl]
                  exact dpAll_set' (Rb.DpAll.ts ts _ _ (hA.bn i hi).1 (hA.bs i hi)) (Rb.Dp.ts ts _ _ nl h3)
                · rw [updN_ne q]
                  unfold setB
                  rw [if_neg q]
                  exact Rb.DpAll.ts ts _ _ (hA.bn i hi).1 (hA.bs i hi)
              · show noLs (updN A.bl d _ i) = true ∧ (updN A.bl d _ i).length = 8
                by_cases q : i = d
                · subst q
                  rw [updN_same, List.length_set]
                  exact ⟨noLs_set' (hA.bn i hi).1 nl, (hA.bn i hi).2⟩
                · rw [updN_ne q]
                  exact hA.bn i hi
              · show (updN A.jo d _ i).length ≤ N + 1 + 100
                by_cases q : i = d
                · subst q
                  rw [updN_same, List.length_append]
                  have := hA.s3 i hi
                  show (A.jo i).length + 1 ≤ _
                  omega
                · rw [updN_ne q]
                  exact hA1.s3 i hi
  | journal =>
    cases hD
    obtain ⟨j0, j1, ej, ⟨ys, ja, jb⟩, ⟨zs, jc, jd⟩⟩ := hA.jo
    obtain ⟨j, js, ejd, hjs, hjd⟩ : ∃ j js, M.jo[d]? = some (.ref j) ∧ SqT K H j js ∧ DpAll K H js (A.jo d) := by
      rw [ej]
      rcases lt2 hd with rfl | rfl
      · exact ⟨j0, ys, rfl, ja, jb⟩
      · exact ⟨j1, zs, rfl, jc, jd⟩
    exact .journal ejd (fin _ H M hA1 (.tup hjs hjd) (hA.jn d hd) KL.refl)
  | @tell ds nl hl =>
    cases hD with
    | cons h1 h2 =>
      cases h2
      cases h1 with
      | @tup a ys ds hs ha =>
        obtain ⟨j0, j1, ej, ⟨y0, ja, jb⟩, ⟨z0, jc, jd⟩⟩ := hA.jo
        refine .tell (by rw [ej]; exact hd) ?_
        have m4 := hA.mem.wjo (xs := M.jo.set d (.ref a))
        have ts : TSame K H (upd H L.aJ (.lst (M.jo.set d (.ref a)))) := TSame.lst hA.mem.oj
        refine fin .non _ _ { mem := m4, ek := hA.ek, cs := Rb.DpAll.ts ts _ _ hA.cn hA.cs, cn := hA.cn, c7 := hA.c7, en := fun i hi => (hA.en i hi).ts (hA.ew i hi) ts, ew := hA.ew, tw := hA.tw, qu := fun i hi => Rb.DpAll.ts ts _ _ (noLs_cmd _) (hA.qu i hi), ti := hA.ti, jo := ?_, jn := fun i hi => ?_, bs := fun i hi => Rb.DpAll.ts ts _ _ (hA.bn i hi).1 (hA.bs i hi), bn := hA.bn, lg := Rb.DpAll.ts ts _ _ hA.ln hA.lg, ln := hA.ln, ct := hA.ct, s0 := hA1.s0, s1 := hA1.s1, s2 := hA1.s2, s3 := fun i hi => ?_ } .non rfl (KL.refl.upd inJ)
        · have jnew := Rb.DpAll.ts ts _ _ nl ha
          rcases lt2 hd with rfl | rfl
          · refine ⟨a, j1, by show M.jo.set 0 (.ref a) = _; rw [ej]; rfl, ⟨_, ts _ _ hs, by simpa [updN] using jnew⟩, ⟨z0, ts _ _ jc, by simpa [updN] using Rb.DpAll.ts ts _ _ (hA.jn 1 (by decide)) jd⟩⟩
          · refine ⟨j0, a, by show M.jo.set 1 (.ref a) = _; rw [ej]; rfl, ⟨y0, ts _ _ ja, by simpa [updN] using Rb.DpAll.ts ts _ _ (hA.jn 0 (by decide)) jb⟩, ⟨_, ts _ _ hs, by simpa [updN] using jnew⟩⟩
        · show noLs (updN A.jo d _ i) = true
          by_cases q : i = d
          · subst q
            rw [updN_same]
            exact nl
          · rw [updN_ne q]
            exact hA.jn i hi
        · show (updN A.jo d _ i).length ≤ N + 1 + 100
          by_cases q : i = d
          · subst q
            rw [updN_same]
            omega
          · rw [updN_ne q]
            exact hA1.s3 i hi
end Rb
namespace Rb
open PySem PySem.Spec PyProof.Rows L2
def logD (n : Int) (role : Str) (d : Nat) (wd : Str) (ds : List PyData) (rd : PyData) : PyData := .tuple [.int n, .tuple [.str role, .int (d : Int)], .tuple (.str wd :: ds), rd]
theorem logD_nl {n : Int} {role : Str} {d : Nat} {wd : Str} {ds : List PyData} {rd : PyData} (h : noLs ds = true) (h2 : noL rd = true) : noL (logD n role d wd ds rd) = true := by
  show (true && ((true && (true && true)) && ((true && noLs ds) && (noL rd && true)))) = true
  rw [h, h2]
  rfl
/-- an access that is allowed, by data -/
def spAcc (K : PySem.W.Frag) : Sp := fun vs H Q _ => ∃ (L : ML) (M : MS) (A A2 : AM) (N : Nat) (a q : Addr) (role wd : Str) (d : Nat) (rs ks : List Str) (xs : List V) (ds : List PyData) (rd : PyData), vs = [.ref L.m, .ref a, .ref q] ∧ Abs K H L M A N ∧ N < 2900 ∧
  SqT K H a [.str role, .int (d : Int)] ∧ SqT K H q (.str wd :: xs) ∧ DpAll K H xs ds ∧ noLs ds = true ∧ szs ds ≤ 4000 ∧ (wd, rs, ks) ∈ formsL ∧ d < 2 ∧ (wd = "write" → isTw (d : Int) (cellOf ds) = true → wordForm (valOf ds)) ∧
  allowB role (d : Int) wd rs ks ds = true ∧ StepA A d wd ds rd A2 ∧
  ∀ (u : Addr) (r : V) (H' : Hp) (M' : MS), Abs K H' L M' { A2 with log := A.log ++ [logD (A.log.length + 1) role d wd ds rd] } (N + 1) → Dp K H' r rd → noL rd = true → KL L H H' → H u = none → H' u = some (.tup [r, .int (A.log.length + 1)]) → Q (.ref u) H'
theorem acc_imp {K : PySem.W.Frag} : ∀ vs H Q E, spAcc K vs H Q E → spAccess K vs H Q E := by
  rintro vs H Q E ⟨L, M, A, A2, N, a, q, role, wd, d, rs, ks, xs, ds, rd, rfl, hA, hN, ha, hq, hD, hn, hs, hf, hd, hw, hal, st, k⟩
  refine ⟨L, M, a, role, d, q, wd, rs, ks, xs, ds, rfl, hA.mem, ha, hq, hD, hn, hs, hf, hw, hd, fun z => (by rw [hal] at z; cases z), fun _ H1 Q' s1 m1 fin => ?_⟩
  refine step_res (hA.same s1) hd (by omega) st (Rb.DpAll.same s1 _ _ hD) fun r H2 M2 a2 hr nr kl => fin r H2 ?_
  have el := st.log
  have l2 : M2.log.length = A.log.length := by rw [Rb.DpAll.len a2.lg, el]
  have hl := hA.s0
  refine ⟨M2, a2.mem, by omega, fun t u H3 m3 ht hu ut et eu k3 => ?_⟩
  have kl3 : KL L H2 H3 := fun b o hb hn => (k3 b hn (ne_of_none hb ht) (ne_of_none hb hu)).trans hb
  have ts3 : TSame K H2 H3 := kl3.ts a2.mem
  have ts2 : TSame K H1 H2 := kl.ts m1
  have ts : TSame K H H3 := ((TSame.same s1).trans ts2).trans ts3
  have ct : M2.count = (A.log.length : Int) := by rw [a2.ct, el]
  have hr3 := Rb.Dp.ts ts3 _ _ nr hr
  have a3 := a2.move (H' := H2) a2.mem TSame.refl
  obtain ⟨j0, j1, ej, ⟨ys, ja, jb⟩, ⟨zs, jc, jd⟩⟩ := a2.jo
  have hlog : Dp K H3 (.ref t) (logD (A.log.length + 1) role d wd ds rd) := by
    rw [ct] at et
    exact .tup (SqT.of et) (.cons (.int _) (.cons (.tup (ts _ _ ha) (.cons (.str _) (.cons (.int _) .nil))) (.cons (.tup (ts _ _ hq) (.cons (.str _) (Rb.DpAll.ts ts _ _ hn hD))) (.cons hr3 .nil))))
  refine k u r H3 { M2 with count := M2.count + 1, log := M2.log ++ [.ref t] } { mem := m3, ek := a2.ek, cs := Rb.DpAll.ts ts3 _ _ a2.cn a2.cs, cn := a2.cn, c7 := a2.c7, en := fun i hi => (a2.en i hi).ts (a2.ew i hi) ts3, ew := a2.ew, tw := a2.tw, qu := fun i hi => Rb.DpAll.ts ts3 _ _ (noLs_cmd _) (a2.qu i hi), ti := a2.ti, jo := ⟨j0, j1, ej, ⟨ys, ts3 _ _ ja, Rb.DpAll.ts ts3 _ _ (a2.jn 0 (by decide)) jb⟩, ⟨zs, ts3 _ _ jc, Rb.DpAll.ts ts3 _ _ (a2.jn 1 (by decide)) jd⟩⟩, jn := a2.jn, bs := fun i hi => Rb.DpAll.ts ts3 _ _ (a2.bn i hi).1 (a2.bs i hi), bn := a2.bn, lg := ?_, ln := ?_, ct := ?_, s0 := ?_, s1 := a2.s1, s2 := a2.s2, s3 := a2.s3 } hr3 nr (((KL.of s1).trans kl).trans kl3) ?_ ?_
  · have := a2.lg
    rw [el] at this
    have ln := a2.ln
    rw [el] at ln
    exact Rb.DpAll.app (Rb.DpAll.ts ts3 _ _ ln this) (.cons hlog .nil)
  · have ln := a2.ln
    rw [el] at ln
    show noLs (A.log ++ [logD (A.log.length + 1) role d wd ds rd]) = true
    rw [noLs_app, ln]
    show (true && (noL (logD (A.log.length + 1) role d wd ds rd) && true)) = true
    rw [logD_nl hn nr]
    rfl
  · show M2.count + 1 = ((A.log ++ [_]).length : Int)
    rw [ct, List.length_append]
    rfl
  · show (A.log ++ [_]).length ≤ N + 1
    rw [List.length_append]
    exact Nat.succ_le_succ hl
  · cases e : H u with
    | none => rfl
    | some o =>
      exfalso
      have e1 := s1 _ _ e
      have nu : u ∉ L.all := a2.mem.nin hu
      rw [kl _ _ e1 nu] at hu
      cases hu
  · rw [ct] at eu
    exact eu
section
variable {P : Program} {w : World} {K : PySem.W.Frag} {mg : Str → Option Value} {base : Heap}
theorem ok_acc (T : Top K mg) (TB : ∃ es n, KDict K w (He.ga K "FORMS") es n) : FnC P w K mg base (L2.CX P w) 7 (He.ma K (He.ga K "Memory") "access") (spAcc K) := (ok_access T TB).imp acc_imp
end
end Rb
namespace Rb
open PySem PySem.Spec PyProof.Rows L2
/-! ### a new memory, by data -/
def vD : V → PyData
  | .int i => .int i
  | _ => .none
def zD : PyData := .tuple [.int 0, .int 0, .int 0, .int 0]
def A0 : AM := ⟨cells0.map vD, fun _ _ => none, fun _ => [], fun _ => 0, fun _ => [], fun _ => List.replicate 8 zD, []⟩
theorem cells0_70 : cells0.length = 70 := fcD_len 2
theorem cells0_is : ∀ c < 70, cells0[c]? = some (if c < 8 ∨ (24 ≤ c ∧ c < 32) ∨ (56 ≤ c ∧ c < 68) then V.non else V.int 0) := by decide +kernel
theorem dp_simple {K : PySem.W.Frag} {H : Hp} : ∀ {vs : List V}, (∀ v ∈ vs, v = .non ∨ v = .int 0) → DpAll K H vs (vs.map vD)
  | [], _ => .nil
  | v :: vs, h => by
    refine .cons ?_ (dp_simple fun x hx => h x (List.mem_cons_of_mem _ hx))
    rcases h v (List.mem_cons_self ..) with rfl | rfl
    · exact .non
    · exact .int 0
theorem noL_simple : ∀ vs : List V, noLs (vs.map vD) = true
  | [] => rfl
  | v :: vs => by
    show (noL (vD v) && noLs (vs.map vD)) = true
    rw [noL_simple vs]
    cases v <;> rfl
theorem abs0 {K : PySem.W.Frag} {H : Hp} {L : ML} {z : Nat → Addr} {t : Addr} (m : MemAt (CM K) (CG K) L H (M0 z t)) (hz : ∀ i, i < 2 → H (z i) = some (.tup [.int 0, .int 0, .int 0, .int 0])) (ht : H t = some (.tup [])) : Abs K H L (M0 z t) A0 0 := by
  have cs : DpAll K H cells0 (cells0.map vD) := dp_simple fun v hv => by
    obtain ⟨c, hc⟩ := List.mem_iff_getElem?.mp hv
    have hl : c < 70 := by
      rw [← cells0_70]
      exact (List.getElem?_eq_some_iff.mp hc).1
    rw [cells0_is c hl] at hc
    injection hc with hc
    split at hc
    · exact .inl hc.symm
    · exact .inr hc.symm
  refine { mem := m, ek := fun d hd => ⟨[], rfl, .nil, fun k hk => nomatch hk⟩, cs := cs, cn := noL_simple _, c7 := by show (cells0.map vD).length = 70; rw [List.length_map]; exact cells0_70, en := fun d hd p => .inl ⟨rfl, rfl⟩, ew := fun d hd p dd e => (nomatch e), tw := fun d hd p hp dd e => ?_, qu := fun d hd => .nil, ti := fun d hd => rfl, jo := ⟨t, t, rfl, ⟨[], SqT.of ht, .nil⟩, ⟨[], SqT.of ht, .nil⟩⟩, jn := fun d hd => rfl, bs := fun d hd => ?_, bn := fun d hd => ⟨rfl, rfl⟩, lg := .nil, ln := rfl, ct := rfl, s0 := Nat.le_refl _, s1 := fun d hd => Nat.le_refl _, s2 := fun d hd => Nat.le_refl _, s3 := fun d hd => Nat.zero_le _ }
  · have e : (cells0.map vD)[56 + d * 6 + p]? = some dd := e
    rw [List.getElem?_map, cells0_is _ (by omega), if_pos (by omega)] at e
    injection e with e
    exact .inl e.symm
  · have dz : Dp K H (.ref (z d)) zD := .tup (SqT.of (hz d hd)) (.cons (.int 0) (.cons (.int 0) (.cons (.int 0) (.cons (.int 0) .nil))))
    show DpAll K H (List.replicate 8 (.ref (z d))) (List.replicate 8 zD)
    exact .cons dz (.cons dz (.cons dz (.cons dz (.cons dz (.cons dz (.cons dz (.cons dz .nil)))))))
/-! ### what is allowed -/
theorem stIn_t {c f n : Int} (h1 : f ≤ c) (h2 : c < f + n) : stIn c f n = true := by
  unfold stIn
  rw [decide_eq_true h1, decide_eq_true h2]
  rfl
theorem fits_int {c : Int} : fitsD "integer" (.int c) = true := by
  show (if ("integer" : Str) == "page" then _ else _) = true
  rw [if_neg (by decide), if_neg (by decide), if_neg (by decide), if_neg (by decide), if_neg (by decide), if_neg (by decide)]
  rfl
theorem fits_val {d : PyData} : fitsD "value" d = isVal d := by
  show (if ("value" : Str) == "page" then _ else _) = _
  rw [if_neg (by decide), if_neg (by decide), if_neg (by decide), if_pos (by decide)]
theorem fits_page {p : Nat} (h : p < 6) : fitsD "page" (.int (p : Int)) = true := by
  show (if ("page" : Str) == "page" then _ else _) = true
  rw [if_pos (by decide)]
  show (decide ((0 : Int) ≤ p) && decide ((p : Int) < 6)) = true
  rw [decide_eq_true (by omega), decide_eq_true (by omega)]
  rfl
theorem fits_index {p : Nat} (h : p < 4) : fitsD "index" (.int (p : Int)) = true := by
  show (if ("index" : Str) == "page" then _ else _) = true
  rw [if_neg (by decide), if_pos (by decide)]
  show (decide ((0 : Int) ≤ p) && decide ((p : Int) < 4)) = true
  rw [decide_eq_true (by omega), decide_eq_true (by omega)]
  rfl
theorem num2 {d : Nat} (h : d < 2) : isNum (.int (d : Int)) 2 = true := isNum_nat (n := 2) h
theorem may_drv {d c : Nat} (hd : d < 2) (h : (24 * d ≤ c ∧ c < 24 * d + 24) ∨ (48 + 4 * d ≤ c ∧ c < 52 + 4 * d) ∨ (56 + 6 * d ≤ c ∧ c < 62 + 6 * d) ∨ c = 68 + d) : mayR "driver" (d : Int) (c : Int) = true := by
  unfold mayR
  rw [if_neg (by decide)]
  rcases h with h | h | h | h
  · rw [stIn_t (by unfold fcell; omega) (by unfold fcell; omega)]
    rfl
  · have : isReg (d : Int) (c : Int) = true := stIn_t (by unfold dbell; omega) (by unfold dbell; omega)
    rw [this, Bool.true_or, Bool.or_true]
  · have : isTw (d : Int) (c : Int) = true := stIn_t (by unfold tword; omega) (by unfold tword; omega)
    rw [this, Bool.true_or, Bool.or_true, Bool.or_true]
  · have : decide ((c : Int) = ackw (d : Int)) = true := decide_eq_true (by unfold ackw; omega)
    rw [this, Bool.or_true, Bool.or_true, Bool.or_true]
theorem tw_no {d c : Nat} (h : c < 56 + 6 * d ∨ 62 + 6 * d ≤ c) : isTw (d : Int) (c : Int) = false := by
  unfold isTw stIn tword
  rcases h with h | h
  · rw [decide_eq_false (by omega)]
    rfl
  · rw [Bool.and_comm, decide_eq_false (by omega)]
    rfl
abbrev rsRW : List Str := ["driver", "device"]
theorem al_write {d c : Nat} {v : PyData} (hd : d < 2) (hv : isVal v = true) (hc : mayR "driver" (d : Int) (c : Int) = true) (hw : isTw (d : Int) (c : Int) = true → isWordD v = true) : allowB "driver" (d : Int) "write" rsRW ["integer", "value"] [.int (c : Int), v] = true := by
  unfold allowB hasF
  show (isNum (.int (d : Int)) 2 && ((inV (.str "driver") [.str "driver", .str "device"] && (decide (2 = 2) && (fitsD "integer" (.int (c : Int)) && (fitsD "value" v && true)))) && (if inV (.str "write") [.str "read", .str "write"] then mayR "driver" (d : Int) (c : Int) && (if ("write" : Str) == "write" && isTw (d : Int) (c : Int) then isWordD v else true) else true))) = true
  rw [num2 hd, fits_int, fits_val, hv, hc, (by decide : inV (.str "driver") [.str "driver", .str "device"] = true), (by decide : inV (.str "write") [.str "read", .str "write"] = true), (by decide : (("write" : Str) == "write") = true)]
  cases e : isTw (d : Int) (c : Int) with
  | false => rfl
  | true =>
    rw [hw e]
    rfl
theorem al_read {d c : Nat} (hd : d < 2) (hc : mayR "driver" (d : Int) (c : Int) = true) : allowB "driver" (d : Int) "read" rsRW ["integer"] [.int (c : Int)] = true := by
  unfold allowB hasF
  show (isNum (.int (d : Int)) 2 && ((inV (.str "driver") [.str "driver", .str "device"] && (decide (1 = 1) && (fitsD "integer" (.int (c : Int)) && true))) && (if inV (.str "read") [.str "read", .str "write"] then mayR "driver" (d : Int) (c : Int) && (if ("read" : Str) == "write" && isTw (d : Int) (c : Int) then isWordD _ else true) else true))) = true
  rw [num2 hd, fits_int, hc, (by decide : inV (.str "driver") [.str "driver", .str "device"] = true), (by decide : inV (.str "read") [.str "read", .str "write"] = true), (by decide : (("read" : Str) == "write") = false)]
  rfl
theorem al_dread {d p i : Nat} (hd : d < 2) (hp : p < 6) (hi : i < 4) : allowB "device" (d : Int) "dma read" ["device"] ["page", "index"] [.int (p : Int), .int (i : Int)] = true := by
  unfold allowB hasF
  show (isNum (.int (d : Int)) 2 && ((inV (.str "device") [.str "device"] && (decide (2 = 2) && (fitsD "page" (.int (p : Int)) && (fitsD "index" (.int (i : Int)) && true)))) && (if inV (.str "dma read") [.str "read", .str "write"] then _ else true))) = true
  rw [num2 hd, fits_page hp, fits_index hi, (by decide : inV (.str "device") [.str "device"] = true), (by decide : inV (.str "dma read") [.str "read", .str "write"] = false)]
  rfl
theorem al_dwrite {d p i : Nat} {v : PyData} (hd : d < 2) (hp : p < 6) (hi : i < 4) (hv : isVal v = true) : allowB "device" (d : Int) "dma write" ["device"] ["page", "index", "value"] [.int (p : Int), .int (i : Int), v] = true := by
  unfold allowB hasF
  show (isNum (.int (d : Int)) 2 && ((inV (.str "device") [.str "device"] && (decide (3 = 3) && (fitsD "page" (.int (p : Int)) && (fitsD "index" (.int (i : Int)) && (fitsD "value" v && true))))) && (if inV (.str "dma write") [.str "read", .str "write"] then _ else true))) = true
  rw [num2 hd, fits_page hp, fits_index hi, fits_val, hv, (by decide : inV (.str "device") [.str "device"] = true), (by decide : inV (.str "dma write") [.str "read", .str "write"] = false)]
  rfl
theorem isTw_in {d c : Nat} (h : isTw (d : Int) (c : Int) = true) : 56 + d * 6 ≤ c ∧ c < 56 + d * 6 + 6 := by
  unfold isTw stIn tword at h
  obtain ⟨h1, h2⟩ := and2 h
  have h1 := of_decide_eq_true h1
  have h2 := of_decide_eq_true h2
  omega
theorem wordF.is {d : PyData} (h : d = .none ∨ wordF d) : isWordD d = true := by
  rcases h with rfl | ⟨f, r, rfl, hf, hr⟩
  · rfl
  · show (isNum (.int (f : Int)) 6 && inV (.str r) [.str "r", .str "w"]) = true
    rw [show isNum (.int (f : Int)) 6 = true from isNum_nat (n := 6) hf]
    rcases hr with rfl | rfl <;> decide +kernel
theorem wordF.form {d : PyData} (h : d = .none ∨ wordF d) : wordForm d := by
  rcases h with rfl | ⟨f, r, rfl, _⟩
  · exact .inl rfl
  · exact .inr ⟨_, _, rfl⟩
section
variable {K : PySem.W.Frag} {H : Hp} {Q : VK} {E : XK} {L : ML} {M : MS} {A : AM} {N d : Nat} {a q : Addr} {v : V} {dv : PyData}
/-- the driver writes -/
theorem acc_write {c : Nat} (hA : Abs K H L M A N) (hN : N < 2900) (hd : d < 2) (ha : SqT K H a [.str "driver", .int (d : Int)]) (hq : SqT K H q [.str "write", .int (c : Int), v]) (hv : Dp K H v dv) (iv : isVal dv = true) (nl : noL dv = true) (hz : sz dv ≤ 3000)
    (hc : mayR "driver" (d : Int) (c : Int) = true) (h70 : c < 70) (hw : ∀ d', d' < 2 → ∀ p, p < 6 → c = 56 + d' * 6 + p → dv = .none ∨ wordF dv)
    (k : ∀ (u : Addr) (H' : Hp) (M' : MS), Abs K H' L M' { A with cells := A.cells.set c dv, log := A.log ++ [logD (A.log.length + 1) "driver" d "write" [.int (c : Int), dv] .none] } (N + 1) → KL L H H' → H u = none → H' u = some (.tup [.non, .int (A.log.length + 1)]) → Q (.ref u) H') :
    spAcc K [.ref L.m, .ref a, .ref q] H Q E := by
  have tw : isTw (d : Int) (c : Int) = true → dv = .none ∨ wordF dv := fun h => by
    obtain ⟨h1, h2⟩ := isTw_in h
    exact hw d hd (c - (56 + d * 6)) (by omega) (by omega)
  refine ⟨L, M, A, _, N, a, q, "driver", "write", d, rsRW, ["integer", "value"], [.int (c : Int), v], [.int (c : Int), dv], .none, rfl, hA, hN, ha, hq, .cons (.int _) (.cons hv .nil), ?_, ?_, by simp [formsL], hd, fun _ h => wordF.form (tw h), al_write hd iv hc (fun h => wordF.is (tw h)), .write h70 nl hw, fun u r H' M' a' hr _ kl hu eu => ?_⟩
  · show (true && (noL dv && true)) = true
    rw [nl]
    rfl
  · show 1 + (sz dv + 0) ≤ 4000
    omega
  · cases hr
    exact k u H' M' a' kl hu eu
/-- the driver reads -/
theorem acc_read {c : Nat} {x : PyData} (hA : Abs K H L M A N) (hN : N < 2900) (hd : d < 2) (ha : SqT K H a [.str "driver", .int (d : Int)]) (hq : SqT K H q [.str "read", .int (c : Int)])
    (hc : mayR "driver" (d : Int) (c : Int) = true) (hx : A.cells[c]? = some x)
    (k : ∀ (u : Addr) (r : V) (H' : Hp) (M' : MS), Abs K H' L M' { A with log := A.log ++ [logD (A.log.length + 1) "driver" d "read" [.int (c : Int)] x] } (N + 1) → Dp K H' r x → KL L H H' → H u = none → H' u = some (.tup [r, .int (A.log.length + 1)]) → Q (.ref u) H') :
    spAcc K [.ref L.m, .ref a, .ref q] H Q E :=
  ⟨L, M, A, _, N, a, q, "driver", "read", d, rsRW, ["integer"], [.int (c : Int)], [.int (c : Int)], x, rfl, hA, hN, ha, hq, .cons (.int _) .nil, rfl, by show 1 + 0 ≤ 4000; omega, by simp [formsL], hd, fun z => absurd z (by decide), al_read hd hc, .read hx, fun u r H' M' a' hr _ kl hu eu => k u r H' M' a' hr kl hu eu⟩
/-- the device reads by dma -/
theorem acc_dread {p i : Nat} {rd : PyData} {A2 : AM} (hA : Abs K H L M A N) (hN : N < 2900) (hd : d < 2) (hp : p < 6) (hi : i < 4) (ha : SqT K H a [.str "device", .int (d : Int)]) (hq : SqT K H q [.str "dma read", .int (p : Int), .int (i : Int)])
    (st : StepA A d "dma read" [.int (p : Int), .int (i : Int)] rd A2)
    (k : ∀ (u : Addr) (r : V) (H' : Hp) (M' : MS), Abs K H' L M' { A2 with log := A.log ++ [logD (A.log.length + 1) "device" d "dma read" [.int (p : Int), .int (i : Int)] rd] } (N + 1) → Dp K H' r rd → KL L H H' → H u = none → H' u = some (.tup [r, .int (A.log.length + 1)]) → Q (.ref u) H') :
    spAcc K [.ref L.m, .ref a, .ref q] H Q E :=
  ⟨L, M, A, _, N, a, q, "device", "dma read", d, ["device"], ["page", "index"], [.int (p : Int), .int (i : Int)], [.int (p : Int), .int (i : Int)], rd, rfl, hA, hN, ha, hq, .cons (.int _) (.cons (.int _) .nil), rfl, by show 1 + (1 + 0) ≤ 4000; omega, by simp [formsL], hd, fun z => absurd z (by decide), al_dread hd hp hi, st, fun u r H' M' a' hr _ kl hu eu => k u r H' M' a' hr kl hu eu⟩
/-- the device writes by dma -/
theorem acc_dwrite {p i : Nat} {rd : PyData} {A2 : AM} (hA : Abs K H L M A N) (hN : N < 2900) (hd : d < 2) (hp : p < 6) (hi : i < 4) (ha : SqT K H a [.str "device", .int (d : Int)]) (hq : SqT K H q [.str "dma write", .int (p : Int), .int (i : Int), v])
    (hv : Dp K H v dv) (iv : isVal dv = true) (nl : noL dv = true) (hz : sz dv ≤ 3000)
    (st : StepA A d "dma write" [.int (p : Int), .int (i : Int), dv] rd A2)
    (k : ∀ (u : Addr) (r : V) (H' : Hp) (M' : MS), Abs K H' L M' { A2 with log := A.log ++ [logD (A.log.length + 1) "device" d "dma write" [.int (p : Int), .int (i : Int), dv] rd] } (N + 1) → Dp K H' r rd → KL L H H' → H u = none → H' u = some (.tup [r, .int (A.log.length + 1)]) → Q (.ref u) H') :
    spAcc K [.ref L.m, .ref a, .ref q] H Q E := by
  refine ⟨L, M, A, _, N, a, q, "device", "dma write", d, ["device"], ["page", "index", "value"], [.int (p : Int), .int (i : Int), v], [.int (p : Int), .int (i : Int), dv], rd, rfl, hA, hN, ha, hq, .cons (.int _) (.cons (.int _) (.cons hv .nil)), ?_, ?_, by simp [formsL], hd, fun z => absurd z (by decide), al_dwrite hd hp hi iv, st, fun u r H' M' a' hr _ kl hu eu => k u r H' M' a' hr kl hu eu⟩
  · show (true && (true && (noL dv && true))) = true
    rw [nl]
    rfl
  · show 1 + (1 + (sz dv + 0)) ≤ 4000
    omega
end
end Rb
namespace Rb
open PySem PySem.Spec PyProof.Rows L2
/-! ### the rings -/
def phI (n : Int) : Int := 1 - n / 4 % 2
def isKind : V → Bool
  | .str s => inV (.str s) [.str "read", .str "write"]
  | _ => false
def isNat : V → Bool
  | .int i => decide (0 ≤ i)
  | _ => false
def isPh (n : Int) : V → Bool
  | .int i => decide (V.int i = V.int (phI n))
  | _ => false
def isSame (n : Int) : V → Bool
  | .int i => decide (V.int i = V.int n)
  | _ => false
def isDone : V → Bool
  | .str s => decide (V.str s = V.str "done")
  | _ => false
def fitD (a b c e : V) : Bool := (isNum a 4 && (isKind b && isNum c 8)) && isNat e
def newD : List V → Int → Bool
  | [a, b, c, d, e], n => fitD a b c e && (isPh n d && isSame n e)
  | _, _ => false
def newC : List V → Int → Bool
  | [a, b, d], n => isNum a 4 && (isDone b && isPh n d)
  | _, _ => false
theorem isNum_int {v : V} {l : Int} (h : isNum v l = true) : ∃ i, v = .int i ∧ 0 ≤ i ∧ i < l := by
  cases v with
  | int i =>
    obtain ⟨h1, h2⟩ := Bool.and_eq_true_iff.mp (show (decide (0 ≤ i) && decide (i < l)) = true from h)
    exact ⟨i, rfl, of_decide_eq_true h1, of_decide_eq_true h2⟩
  | _ => cases h
theorem isKind_str {v : V} (h : isKind v = true) : ∃ s, v = .str s := by
  cases v with
  | str s => exact ⟨s, rfl⟩
  | _ => cases h
theorem isNat_int {v : V} (h : isNat v = true) : ∃ i, v = .int i ∧ 0 ≤ i := by
  cases v with
  | int i => exact ⟨i, rfl, of_decide_eq_true h⟩
  | _ => cases h
section
variable {P : Program} {w : World} {K : PySem.W.Frag} {mg : Str → Option Value} {base : Heap}
def spPage : Sp := fun vs H Q _ => ∃ i : Int, vs = [.int i] ∧ Q (.int (i + 2)) H
theorem ok_buffer_page (T : Top K mg) : FnC P w K mg base CX0 1 (He.ga K "buffer_page") spPage := by
  refine fnc0 T.d_buffer_page sc_buffer_page (fun _ _ _ _ _ _ us hl => match us, hl with | [_], _ => rfl) (fun vs H Q E h => ?_) (fun cdv A outer s H vs Q E hr h => ?_)
  · obtain ⟨i, rfl, _⟩ := h
    rfl
  · obtain ⟨i, rfl, k⟩ := h
    refine ⟨_, (pss_one (ps_ret (pe_op op_add (pv 0) (pe_gc (by rfl) T.c_FIRST_BUFFER)))), ?_⟩
    exact ⟨_, rfl, _, _, rfl, rfl, k⟩
def spSlot : Sp := fun vs H Q _ => ∃ i : Int, vs = [.int i] ∧ Q (.int (i % 4)) H
theorem ok_slot_of (T : Top K mg) : FnC P w K mg base CX0 1 (He.ga K "slot_of") spSlot := by
  refine fnc0 T.d_slot_of sc_slot_of (fun _ _ _ _ _ _ us hl => match us, hl with | [_], _ => rfl) (fun vs H Q E h => ?_) (fun cdv A outer s H vs Q E hr h => ?_)
  · obtain ⟨i, rfl, _⟩ := h
    rfl
  · obtain ⟨i, rfl, k⟩ := h
    refine ⟨_, (pss_one (ps_ret (pe_op op_mod (pv 0) (pe_gc (by rfl) T.c_SLOTS)))), ?_⟩
    exact ⟨_, rfl, _, _, rfl, rfl, (by show (0 : Int) < 4; decide), k⟩
def spPhase : Sp := fun vs H Q _ => ∃ i : Int, vs = [.int i] ∧ Q (.int (phI i)) H
theorem ok_phase_of (T : Top K mg) : FnC P w K mg base CX0 1 (He.ga K "phase_of") spPhase := by
  refine fnc0 T.d_phase_of sc_phase_of (fun _ _ _ _ _ _ us hl => match us, hl with | [_], _ => rfl) (fun vs H Q E h => ?_) (fun cdv A outer s H vs Q E hr h => ?_)
  · obtain ⟨i, rfl, _⟩ := h
    rfl
  · obtain ⟨i, rfl, k⟩ := h
    refine ⟨_, (pss_one (ps_ret (pe_op op_sub pe_int (pe_op op_mod (pe_op op_fdiv (pv 0) (pe_gc (by rfl) T.c_SLOTS)) pe_int)))), ?_⟩
    exact ⟨_, rfl, _, _, rfl, rfl, ⟨by decide, by decide⟩, _, _, rfl, rfl, (by show (0 : Int) < 2; decide), _, _, rfl, rfl, k⟩
def spIsTag : Sp := fun vs H Q _ => ∃ v, vs = [v] ∧ El H v ∧ Q (.bl (isNum v 4)) H
theorem ok_is_tag (T : Top K mg) : FnC P w K mg base CX0 3 (He.ga K "is_tag") spIsTag := by
  have G_is_number := ok_is_number (P := P) (w := w) (base := base) T
  refine fnc0 T.d_is_tag sc_is_tag (fun _ _ _ _ _ _ us hl => match us, hl with | [_], _ => rfl) (fun vs H Q E h => ?_) (fun cdv A outer s H vs Q E hr h => ?_)
  · obtain ⟨v, rfl, _⟩ := h
    rfl
  · obtain ⟨v, rfl, e, k⟩ := h
    refine ⟨_, (pss_one (ps_ret (pe_f G_is_number hr (by decide) (by rfl) T.g_is_number pass0 (pa_cons (pv 0) (pa_cons (pe_gc (by rfl) T.c_TAGS) pa_nil))))), ?_⟩
    exact ⟨_, rfl, v, _, 4, rfl, e.ty, k⟩
def spIsOrder : Sp := fun vs H Q _ => ∃ a b c, vs = [a, b, c] ∧ El H a ∧ El H b ∧ El H c ∧ Q (.bl (isNum a 4 && (isKind b && isNum c 8))) H
theorem ok_is_order (T : Top K mg) : FnC P w K mg base CX0 4 (He.ga K "is_order") spIsOrder := by
  have G_is_number := ok_is_number (P := P) (w := w) (base := base) T
  have G_is_tag := ok_is_tag (P := P) (w := w) (base := base) T
  refine fnc0 T.d_is_order sc_is_order (fun _ _ _ _ _ _ us hl => match us, hl with | [_, _, _], _ => rfl) (fun vs H Q E h => ?_) (fun cdv A outer s H vs Q E hr h => ?_)
  · obtain ⟨a, b, c, rfl, _⟩ := h
    rfl
  · obtain ⟨a, b, c, rfl, ea, eb, ec, k⟩ := h
    refine ⟨_, (pss_one (ps_ret (pe_and (pe_f G_is_tag hr (by decide) (by rfl) T.g_is_tag pass0 (pa_cons (pv 0) pa_nil)) (pe_and (pe_cmpR op_isTyB (pe_callTy call_type1 (by rfl) T.b_type (by decide +kernel) (pa_cons (pv 1) pa_nil)) (pe_bltn (v := .ty "str") (by rfl) T.b_str (by decide +kernel) rfl) (nomark _)) (pe_and (pe_cmpR op_in_seq (pv 1) (pe_gc (by rfl) T.c_KINDS) rfl) (pe_one (pe_f G_is_number hr (by decide) (by rfl) T.g_is_number pass0 (pa_cons (pv 2) (pa_cons (pe_gc (by rfl) T.c_BLOCKS) pa_nil))))))))), ?_⟩
    refine ⟨_, rfl, a, rfl, ea, _, rfl, ?_⟩
    cases h1 : isNum a 4
    · rw [h1] at k
      exact k
    rw [h1, Bool.true_and] at k
    refine ⟨_, rfl, _, _, rfl, eb.ty, _, _, rfl, rfl, _, rfl, ?_⟩
    cases b with
    | str s =>
      refine ⟨_, rfl, _, _, rfl, .inr (T.t_KINDS _), rfl, (by rfl), _, rfl, ?_⟩
      show if inV (.str s) [.str "read", .str "write"] = true then _ else _
      have e2 : isKind (.str s) = inV (.str s) [.str "read", .str "write"] := rfl
      rw [e2] at k
      cases h2 : inV (.str s) [.str "read", .str "write"]
      · rw [h2] at k
        exact k
      rw [h2, Bool.true_and] at k
      exact ⟨_, rfl, _, _, 8, rfl, ec.ty, k⟩
    | _ => first | exact k | exact eb.elim
def spIsEnt : Sp := fun vs H Q _ => ∃ v, vs = [v] ∧ El H v ∧ Q (.bl (isNat v)) H
theorem ok_is_entry_number (T : Top K mg) : FnC P w K mg base CX0 2 (He.ga K "is_entry_number") spIsEnt := by
  have G_is_integer := ok_is_integer (P := P) (w := w) (base := base) T
  refine fnc0 T.d_is_entry_number sc_is_entry_number (fun _ _ _ _ _ _ us hl => match us, hl with | [_], _ => rfl) (fun vs H Q E h => ?_) (fun cdv A outer s H vs Q E hr h => ?_)
  · obtain ⟨v, rfl, _⟩ := h
    rfl
  · obtain ⟨v, rfl, e, k⟩ := h
    refine ⟨_, (pss_one (ps_ret (pe_and (pe_f G_is_integer hr (by decide) (by rfl) T.g_is_integer pass0 (pa_cons (pv 0) pa_nil)) (pe_one (pe_cmpR op_ge (pv 0) pe_int (nomark _)))))), ?_⟩
    refine ⟨_, rfl, v, _, rfl, e.ty, _, rfl, ?_⟩
    cases v with
    | int i => exact ⟨_, rfl, _, _, rfl, rfl, k⟩
    | _ => first | exact k | exact e.elim
def spHasPh : Sp := fun vs H Q _ => ∃ v n, vs = [v, .int n] ∧ El H v ∧ Q (.bl (isPh n v)) H
end
end Rb
namespace Rb
open PySem PySem.Spec PyProof.Rows L2
def spDesc (K : PySem.W.Frag) : Sp := fun vs H Q E => ∃ a b c e, vs = [a, b, c, e] ∧ El H a ∧ El H b ∧ El H c ∧ El H e ∧
  (∀ n, e = .int n → fitD a b c e = true → ∀ p, H p = none → Q (.ref p) (upd H p (.tup [a, b, c, .int (phI n), e]))) ∧ (fitD a b c e = false → E (NV K) none H)
def spComp (K : PySem.W.Frag) : Sp := fun vs H Q E => ∃ a e, vs = [a, e] ∧ El H a ∧ El H e ∧
  (∀ n, e = .int n → (isNum a 4 && isNat e) = true → ∀ p, H p = none → Q (.ref p) (upd H p (.tup [a, .str "done", .int (phI n)]))) ∧ ((isNum a 4 && isNat e) = false → E (NV K) none H)
section
variable {P : Program} {w : World} {K : PySem.W.Frag} {mg : Str → Option Value} {base : Heap}
theorem ok_descriptor (T : Top K mg) : FnC P w K mg base (L2.CX P w) 5 (He.ga K "descriptor") (spDesc K) := by
  have G_is_order := ok_is_order (P := P) (w := w) (base := base) T
  have G_is_entry_number := ok_is_entry_number (P := P) (w := w) (base := base) T
  have G_phase_of := ok_phase_of (P := P) (w := w) (base := base) T
  have G_NotValid___init__ := ok_NotValid_init (P := P) (w := w) (base := base) T
  refine fnc T.d_descriptor sc_descriptor (fun _ _ _ _ _ _ us hl => match us, hl with | [_, _, _, _], _ => rfl) (fun vs H Q E h => ?_) (fun cdv A outer s H vs Q E hr h => ?_)
  · obtain ⟨a, b, c, e, rfl, _⟩ := h
    rfl
  · obtain ⟨a, b, c, e, rfl, ea, eb, ec, ee, k, ke⟩ := h
    refine ⟨_, (pss_cons (ps_if (PW.pt (pw_or (pt_not (pt_val (pe_f G_is_order hr (by decide) (by rfl) T.g_is_order pass0 (pa_cons (pv 0) (pa_cons (pv 1) (pa_cons (pv 2) pa_nil)))))) (pw_or1 (pt_not (pt_val (pe_f G_is_entry_number hr (by decide) (by rfl) T.g_is_entry_number pass0 (pa_cons (pv 3) pa_nil))))))) (pss_one (ps_raise rfl (takes_of rfl rfl rfl rfl) (pmk_bare T.ex_NotValid T.ini_NotValid T.ity_NotValid G_NotValid___init__ hr (by decide) pass0 (by rfl) T.g_NotValid))) pss_nil)
    (pss_one (ps_ret (pe_tup (pa_cons (pv 0) (pa_cons (pv 1) (pa_cons (pv 2) (pa_cons (pe_f G_phase_of hr (by decide) (by rfl) T.g_phase_of pass0 (pa_cons (pv 3) pa_nil)) (pa_cons (pv 3) pa_nil))))))))), ?_⟩
    refine ⟨_, rfl, _, rfl, _, rfl, a, b, c, rfl, ea, eb, ec, _, rfl, ?_⟩
    cases h1 : (isNum a 4 && (isKind b && isNum c 8)) with
    | false =>
      refine ⟨fun x hx => ⟨x, _, rfl, T.ex_NotValid, upd_same, rfl, rfl⟩, ke ?_⟩
      show ((isNum a 4 && (isKind b && isNum c 8)) && isNat e) = false
      rw [h1]
      rfl
    | true =>
      refine ⟨_, rfl, e, rfl, ee, _, rfl, ?_⟩
      cases h2 : isNat e with
      | false =>
        refine ⟨fun x hx => ⟨x, _, rfl, T.ex_NotValid, upd_same, rfl, rfl⟩, ke ?_⟩
        show ((isNum a 4 && (isKind b && isNum c 8)) && isNat e) = false
        rw [h1, h2]
        rfl
      | true =>
        obtain ⟨n, rfl, _⟩ := isNat_int h2
        refine ⟨_, rfl, _, rfl, _, rfl, _, rfl, n, rfl, _, rfl, (by show 5 ≤ sizeLine; decide), ?_⟩
        refine k n rfl ?_
        show ((isNum a 4 && (isKind b && isNum c 8)) && isNat (.int n)) = true
        rw [h1, h2]
        rfl
def spNew (K : PySem.W.Frag) (f : List V → Int → Bool) : Sp := fun vs H Q _ => ∃ v n, vs = [v, .int n] ∧ ((v = .non ∧ Q (.bl false) H) ∨ ∃ a xs, v = .ref a ∧ SqT K H a xs ∧ (∀ x ∈ xs, El H x) ∧ Q (.bl (f xs n)) H)
theorem newD_len {xs : List V} {n : Int} (h : xs.length ≠ 5) : newD xs n = false := by
  match xs, h with
  | [], _ => rfl
  | [_], _ => rfl
  | [_, _], _ => rfl
  | [_, _, _], _ => rfl
  | [_, _, _, _], _ => rfl
  | [_, _, _, _, _], h => exact absurd rfl h
  | _ :: _ :: _ :: _ :: _ :: _ :: _, _ => rfl
theorem newC_len {xs : List V} {n : Int} (h : xs.length ≠ 3) : newC xs n = false := by
  match xs, h with
  | [], _ => rfl
  | [_], _ => rfl
  | [_, _], _ => rfl
  | [_, _, _], h => exact absurd rfl h
  | _ :: _ :: _ :: _ :: _, _ => rfl
theorem len5 {xs : List V} (h : xs.length = 5) : ∃ a b c d e, xs = [a, b, c, d, e] := by
  match xs, h with
  | [a, b, c, d, e], _ => exact ⟨a, b, c, d, e, rfl⟩
theorem len3 {xs : List V} (h : xs.length = 3) : ∃ a b c, xs = [a, b, c] := by
  match xs, h with
  | [a, b, c], _ => exact ⟨a, b, c, rfl⟩
theorem neI {n m : Nat} : (!decide (V.int (n : Int) = V.int (m : Int))) = !decide (n = m) := by
  congr 1
  by_cases c : n = m
  · subst c
    rw [decide_eq_true rfl, decide_eq_true rfl]
  · rw [decide_eq_false c, decide_eq_false]
    intro z
    injection z with z
    omega
def isC3 : List V → Bool
  | [a, b, d] => isNum a 4 && (isDone b && isNum d 2)
  | _ => false
theorem isC3_len {xs : List V} (h : xs.length ≠ 3) : isC3 xs = false := by
  match xs, h with
  | [], _ => rfl
  | [_], _ => rfl
  | [_, _], _ => rfl
  | [_, _, _], h => exact absurd rfl h
  | _ :: _ :: _ :: _ :: _, _ => rfl
theorem isPh_num {n : Int} {d : V} (h : isPh n d = true) : isNum d 2 = true := by
  cases d with
  | int i =>
    have h := of_decide_eq_true (show decide (V.int i = V.int (phI n)) = true from h)
    injection h with h
    subst h
    show (decide (0 ≤ phI n) && decide (phI n < 2)) = true
    have : 0 ≤ phI n ∧ phI n < 2 := by
      unfold phI
      omega
    rw [decide_eq_true this.1, decide_eq_true this.2]
    rfl
  | _ => cases h
theorem newC_of {a b d : V} {n : Int} : newC [a, b, d] n = (isC3 [a, b, d] && isPh n d) := by
  show (isNum a 4 && (isDone b && isPh n d)) = ((isNum a 4 && (isDone b && isNum d 2)) && isPh n d)
  cases h : isPh n d with
  | false => rw [Bool.and_false, Bool.and_false, Bool.and_false]
  | true => rw [isPh_num h]; simp
def spIsComp (K : PySem.W.Frag) : Sp := fun vs H Q _ => ∃ v, vs = [v] ∧ ((v = .non ∧ Q (.bl false) H) ∨ ∃ a xs, v = .ref a ∧ SqT K H a xs ∧ (∀ x ∈ xs, El H x) ∧ Q (.bl (isC3 xs)) H)
theorem ok_is_completion (T : Top K mg) : FnC P w K mg base CX0 4 (He.ga K "is_completion") (spIsComp K) := by
  have G_is_tag := ok_is_tag (P := P) (w := w) (base := base) T
  have G_is_number := ok_is_number (P := P) (w := w) (base := base) T
  refine fnc0 T.d_is_completion sc_is_completion (fun _ _ _ _ _ _ us hl => match us, hl with | [_], _ => rfl) (fun vs H Q E h => ?_) (fun cdv A outer s H vs Q E hr h => ?_)
  · obtain ⟨v, rfl, _⟩ := h
    rfl
  · obtain ⟨v, rfl, h⟩ := h
    refine ⟨_, (pss_cons (ps_if (PW.pt (pw_or (pt_cmpR op_notTyB (pe_callTy call_type1 (by rfl) T.b_type (by decide +kernel) (pa_cons (pv 0) pa_nil)) (pe_bltn (v := .ty "tuple") (by rfl) T.b_tuple (by decide +kernel) rfl) (nomark _)) (pw_or1 (pt_cmpR op_ne (pe_callB call_len_seq (by rfl) T.b_len PySem.boot_len (pa_cons (pv 0) pa_nil)) pe_int (nomark _))))) (pss_one (ps_ret pe_bl)) pss_nil)
    (pss_cons (ps_asg (pv 0) (pg_tup rfl (pgs_cons (pg_name (i := 1) sc_is_completion.nd rfl (Or.inl rfl)) (pgs_cons (pg_name (i := 2) sc_is_completion.nd rfl (Or.inl rfl)) (pgs_cons (pg_name (i := 3) sc_is_completion.nd rfl (Or.inl rfl)) pgs_nil)))))
    (pss_one (ps_ret (pe_and (pe_f G_is_tag hr (by decide) (by rfl) T.g_is_tag pass0 (pa_cons (pv 1) pa_nil)) (pe_and (pe_cmpR op_isTyB (pe_callTy call_type1 (by rfl) T.b_type (by decide +kernel) (pa_cons (pv 2) pa_nil)) (pe_bltn (v := .ty "str") (by rfl) T.b_str (by decide +kernel) rfl) (nomark _)) (pe_and (pe_cmpR op_eq (pv 2) (pe_gc (by rfl) T.c_DONE) (nomark _)) (pe_one (pe_f G_is_number hr (by decide) (by rfl) T.g_is_number pass0 (pa_cons (pv 3) (pa_cons (pe_gc (by rfl) T.c_PHASES) pa_nil))))))))))), ?_⟩
    rcases h with ⟨rfl, k⟩ | ⟨a, xs, rfl, e, es, k⟩
    · exact ⟨_, rfl, _, _, rfl, .non, _, _, rfl, rfl, _, rfl, k⟩
    refine ⟨_, rfl, _, _, rfl, .tup e, _, _, rfl, rfl, _, rfl, ?_⟩
    refine ⟨_, rfl, a, xs, rfl, .inr e, rfl, _, rfl, ?_⟩
    show if (!decide (V.int (xs.length : Int) = V.int ((3 : Nat) : Int))) = true then _ else _
    rw [neI]
    by_cases c : xs.length = 3
    · rw [decide_eq_true c]
      obtain ⟨x1, x2, x4, rfl⟩ := len3 c
      have e1 := es x1 (by simp)
      have e2 := es x2 (by simp)
      have e4 := es x4 (by simp)
      refine ⟨_, rfl, a, _, rfl, e, rfl, _, _, rfl, _, _, rfl, _, _, rfl, rfl, ?_⟩
      refine ⟨_, rfl, _, rfl, e1, _, rfl, ?_⟩
      have k' : Q (.bl (isNum x1 4 && (isDone x2 && isNum x4 2))) H := k
      cases h1 : isNum x1 4
      · rw [h1] at k'
        exact k'
      rw [h1, Bool.true_and] at k'
      refine ⟨_, rfl, _, _, rfl, e2.ty, _, _, rfl, rfl, _, rfl, ?_⟩
      cases x2 with
      | str s =>
        refine ⟨_, rfl, rfl, _, rfl, ?_⟩
        show if decide (V.str s = V.str "done") = true then _ else _
        have k2 : Q (.bl (decide (V.str s = V.str "done") && isNum x4 2)) H := k'
        cases h2 : decide (V.str s = V.str "done")
        · rw [h2] at k2
          exact k2
        rw [h2, Bool.true_and] at k2
        exact ⟨_, rfl, _, _, _, rfl, e4.ty, k2⟩
      | _ => first | exact k' | exact e2.elim
    · rw [decide_eq_false c]
      rw [isC3_len c] at k
      exact k
theorem ok_is_new_completion (T : Top K mg) : FnC P w K mg base CX0 5 (He.ga K "is_new_completion") (spNew K newC) := by
  have G_is_completion := ok_is_completion (P := P) (w := w) (base := base) T
  have G_phase_of := ok_phase_of (P := P) (w := w) (base := base) T
  refine fnc0 T.d_is_new_completion sc_is_new_completion (fun _ _ _ _ _ _ us hl => match us, hl with | [_, _], _ => rfl) (fun vs H Q E h => ?_) (fun cdv A outer s H vs Q E hr h => ?_)
  · obtain ⟨v, n, rfl, _⟩ := h
    rfl
  · obtain ⟨v, n, rfl, h⟩ := h
    refine ⟨_, (pss_one (ps_ret (pe_and (pe_f G_is_completion hr (by decide) (by rfl) T.g_is_completion pass0 (pa_cons (pv 0) pa_nil)) (pe_one (pe_cmpR op_eq (pe_ix ix_tup (pv 0) pe_int (fun _ _ => rfl)) (pe_f G_phase_of hr (by decide) (by rfl) T.g_phase_of pass0 (pa_cons (pv 1) pa_nil)) (nomark _)))))), ?_⟩
    refine ⟨_, rfl, v, rfl, ?_⟩
    rcases h with ⟨rfl, k⟩ | ⟨a, xs, rfl, e, es, k⟩
    · exact .inl ⟨rfl, _, rfl, k⟩
    refine .inr ⟨a, xs, rfl, e, es, _, rfl, ?_⟩
    by_cases c : xs.length = 3
    · obtain ⟨x1, x2, x4, rfl⟩ := len3 c
      rw [newC_of] at k
      cases h1 : isC3 [x1, x2, x4]
      · rw [h1] at k
        exact k
      rw [h1, Bool.true_and] at k
      have h4 : isNum x4 2 = true := (and2 (and2 (show (isNum x1 4 && (isDone x2 && isNum x4 2)) = true from h1)).2).2
      obtain ⟨i, rfl, _⟩ := isNum_int h4
      exact ⟨_, rfl, a, _, _, _, rfl, rfl, e, rfl, _, rfl, n, rfl, rfl, k⟩
    · rw [isC3_len c]
      rw [newC_len c] at k
      exact k
end
end Rb
namespace Rb
open PySem PySem.Spec PyProof.Rows L2
/-! ### what can be compared -/
def Gd (n : Nat) (d : PyData) : Prop := PyData.canLay0 d = true ∧ PyData.depth d ≤ n
theorem Gd.up {n m : Nat} {d : PyData} (h : Gd n d) (l : n ≤ m) : Gd m d := ⟨h.1, Nat.le_trans h.2 l⟩
theorem Gd.int {n : Nat} {i : Int} : Gd n (.int i) := ⟨by simp [PyData.canLay0], by simp [PyData.depth]⟩
theorem Gd.none {n : Nat} : Gd n .none := ⟨by simp [PyData.canLay0], by simp [PyData.depth]⟩
theorem Gd.bool {n : Nat} {b : Bool} : Gd n (.bool b) := ⟨by simp [PyData.canLay0], by simp [PyData.depth]⟩
theorem Gd.str {n : Nat} {s : Str} (h : PyData.strOk s = true) : Gd n (.str s) := ⟨by simp [PyData.canLay0, h], by simp [PyData.depth]⟩
theorem Gd.all {n : Nat} : ∀ {ds : List PyData}, (∀ d ∈ ds, Gd n d) → PyData.canLayAll0 ds = true ∧ PyData.depthAll ds ≤ n
  | [], _ => ⟨by simp [PyData.canLayAll0], by simp [PyData.depthAll]⟩
  | d :: ds, h => by
    obtain ⟨a, b⟩ := h d (List.mem_cons_self ..)
    obtain ⟨c, e⟩ := Gd.all (ds := ds) fun x hx => h x (List.mem_cons_of_mem _ hx)
    simp only [PyData.canLayAll0, PyData.depthAll, a, c]
    exact ⟨rfl, Nat.max_le.mpr ⟨b, e⟩⟩
theorem Gd.tup {n : Nat} {ds : List PyData} (h : ∀ d ∈ ds, Gd n d) : Gd (n + 1) (.tuple ds) := by
  obtain ⟨a, b⟩ := Gd.all h
  refine ⟨by simp only [PyData.canLay0]; exact a, ?_⟩
  simp only [PyData.depth]
  omega
theorem Gd.shaped {n : Nat} {d : PyData} (h : Gd n d) (hn : n ≤ 64) : SeqAt.shaped d = true := by
  unfold SeqAt.shaped
  rw [h.1, Bool.true_and]
  exact decide_eq_true (Nat.le_trans h.2 hn)
theorem Gd.list {n : Nat} {ds : List PyData} (h : ∀ d ∈ ds, Gd n d) (hn : n + 1 ≤ 64) : SeqAt.shaped (.list ds) = true := by
  obtain ⟨a, b⟩ := Gd.all h
  simp only [SeqAt.shaped, PyData.canLay0, PyData.depth, a, Bool.true_and]
  exact decide_eq_true (by omega)
theorem wordF.gd {d : PyData} (h : wordF d) : Gd 1 d := by
  obtain ⟨f, r, rfl, _, hr⟩ := h
  refine Gd.tup (n := 0) fun x hx => ?_
  simp only [List.mem_cons, List.not_mem_nil, or_false] at hx
  rcases hx with rfl | rfl
  · exact .int
  · rcases hr with rfl | rfl <;> exact .str (by decide +kernel)
/-- an access that is allowed -/
structure AccOk (A : AM) (d : Nat) (role wd : Str) (ds : List PyData) (rd : PyData) (A2 : AM) : Prop where
  nl : noLs ds = true
  sz : szs ds ≤ 4000
  fm : ∃ rs ks, (wd, rs, ks) ∈ formsL ∧ allowB role (d : Int) wd rs ks ds = true
  wt : wd = "write" → isTw (d : Int) (cellOf ds) = true → wordForm (valOf ds)
  st : StepA A d wd ds rd A2
theorem AccOk.acc {K : PySem.W.Frag} {H : Hp} {Q : VK} {E : XK} {L : ML} {M : MS} {A A2 : AM} {N d : Nat} {a q : Addr} {role wd : Str} {xs : List V} {ds : List PyData} {rd : PyData} (h : AccOk A d role wd ds rd A2)
    (hA : Abs K H L M A N) (hN : N < 2900) (hd : d < 2) (ha : SqT K H a [.str role, .int (d : Int)]) (hq : SqT K H q (.str wd :: xs)) (hD : DpAll K H xs ds)
    (k : ∀ (u : Addr) (r : V) (H' : Hp) (M' : MS), Abs K H' L M' { A2 with log := A.log ++ [logD (A.log.length + 1) role d wd ds rd] } (N + 1) → Dp K H' r rd → noL rd = true → KL L H H' → H u = none → H' u = some (.tup [r, .int (A.log.length + 1)]) → Q (.ref u) H') :
    spAcc K [.ref L.m, .ref a, .ref q] H Q E := by
  obtain ⟨rs, ks, fm, al⟩ := h.fm
  exact ⟨L, M, A, A2, N, a, q, role, wd, d, rs, ks, xs, ds, rd, rfl, hA, hN, ha, hq, hD, h.nl, h.sz, fm, hd, h.wt, al, h.st, k⟩
theorem al_gen {d : Nat} {role wd : Str} {rs ks : List Str} {ds : List PyData} (hd : d < 2) (h1 : inV (.str role) (rs.map V.str) = true) (h2 : inV (.str wd) [.str "read", .str "write"] = false) (h3 : ds.length = ks.length) (h4 : (List.zipWith fitsD ks ds).all id = true) : allowB role (d : Int) wd rs ks ds = true := by
  unfold allowB hasF
  rw [num2 hd, h1, h2, h4, decide_eq_true h3]
  rfl
theorem dp_int {K : PySem.W.Frag} {H : Hp} {v : V} {i : Int} (h : Dp K H v (.int i)) : v = .int i := by
  cases h
  rfl
theorem dp_bl {K : PySem.W.Frag} {H : Hp} {v : V} {i : Bool} (h : Dp K H v (.bool i)) : v = .bl i := by
  cases h
  rfl
theorem dp_tup {K : PySem.W.Frag} {H : Hp} {v : V} {ds : List PyData} (h : Dp K H v (.tuple ds)) : ∃ t xs, v = .ref t ∧ SqT K H t xs ∧ DpAll K H xs ds := by
  cases h with
  | @tup a xs ds hs ha => exact ⟨a, xs, rfl, hs, ha⟩
theorem iteY {c : Prop} [Decidable c] {A B : Prop} (h : c) (a : A) : if c then A else B := by
  rw [if_pos h]
  exact a
theorem iteN {c : Prop} [Decidable c] {A B : Prop} (h : ¬c) (b : B) : if c then A else B := by
  rw [if_neg h]
  exact b
/-! ### what stays outside of a place -/
def KS (S : List Addr) (H H' : Hp) : Prop := ∀ b o, H b = some o → b ∉ S → H' b = some o
theorem KS.refl {S : List Addr} {H : Hp} : KS S H H := fun _ _ h _ => h
theorem KS.trans {S : List Addr} {H H1 H2 : Hp} (a : KS S H H1) (b : KS S H1 H2) : KS S H H2 := fun c o h n => b c o (a c o h n) n
theorem KS.of {S : List Addr} {H H' : Hp} (s : Same H H') : KS S H H' := fun b o h _ => s b o h
theorem KS.upd {S : List Addr} {H H' : Hp} {p : Addr} {o : HO} (a : KS S H H') (hp : p ∈ S) : KS S H (upd H' p o) := fun b u h n => by
  have nb : b ≠ p := fun z => n (by rw [z]; exact hp)
  rw [upd_ne nb]
  exact a b u h n
theorem KS.put {S : List Addr} {H H' : Hp} {p : Addr} {o : HO} (a : KS S H H') (hp : H p = none) : KS S H (L2.upd H' p o) := fun b u h n => by
  rw [upd_ne (ne_of_none h hp)]
  exact a b u h n
theorem KS.mono {S T : List Addr} {H H' : Hp} (a : KS S H H') (h : ∀ b ∈ S, b ∈ T) : KS T H H' := fun b o e n => a b o e fun z => n (h b z)
def NoT (S : List Addr) (H : Hp) : Prop := ∀ b ∈ S, (∀ xs, H b ≠ some (.tup xs)) ∧ ∀ ob xs, H b ≠ some (.frz ob (.tup xs))
theorem KS.ts {K : PySem.W.Frag} {S : List Addr} {H H' : Hp} (k : KS S H H') (m : NoT S H) : TSame K H H' := fun a xs q => by
  rcases q with (q | ⟨ob, q⟩) | q
  · exact .inl (.inl (k _ _ q fun z => (m a z).1 xs q))
  · exact .inl (.inr ⟨ob, k _ _ q fun z => (m a z).2 ob xs q⟩)
  · exact .inr q

/-! ### what the driver asks for -/
structure GV (v : PyData) : Prop where
  iv : isVal v = true
  nl : noL v = true
  sz : sz v ≤ 50
  gd : Gd 2 v
inductive DrvReq : Str → List PyData → Prop
  | tw {p : Nat} {v : PyData} (hp : p < 6) (hv : v = .none ∨ wordF v) : DrvReq "write" [.int ((56 + p : Nat) : Int), v]
  | fr {c : Nat} {v : PyData} (hc : c < 24) (h4 : c ≠ 4) (hv : GV v) : DrvReq "write" [.int (c : Int), v]
  | rg {c : Nat} {i : Int} (hc : c = 48 ∨ c = 49) : DrvReq "write" [.int (c : Int), .int i]
  | rd {c : Nat} (hc : c = 4 ∨ c = 50 ∨ c = 51 ∨ c = 68) : DrvReq "read" [.int (c : Int)]
  | cm {p : Nat} (hp : p < 6) : DrvReq "command" [.int (p : Int)]
/-- the memory while no device moves -/
structure MI (A : AM) : Prop where
  i : A.cells[51]? = some (.int 0)
  y : A.cells[50]? = some (.int 0)
  c : A.cells[4]? = some .none
  a : ∃ k : Int, A.cells[68]? = some (.int k) ∧ k ≤ A.tix 0
  q : ∀ x ∈ A.que 0, x.2 ≤ A.tix 0
structure RdD (A A2 : AM) (w : Str) (ds : List PyData) (rd : PyData) : Prop where
  tx : A2.tix 0 = A.tix 0 + if w = "command" then 1 else 0
  cm : w = "command" → rd = .int (A.tix 0 + 1)
  ri : w = "read" → ds = [.int 51] → rd = .int 0
  ry : w = "read" → ds = [.int 50] → rd = .int 0
  rc : w = "read" → ds = [.int 4] → rd = .none
  ra : w = "read" → ds = [.int 68] → ∃ k : Int, rd = .int k ∧ k ≤ A.tix 0
theorem MI.set {A : AM} {c : Nat} {v : PyData} (h : MI A) (h1 : c ≠ 51) (h2 : c ≠ 50) (h3 : c ≠ 4) (h4 : c ≠ 68) : MI { A with cells := A.cells.set c v } where
  i := by show (A.cells.set c v)[51]? = _; rw [List.getElem?_set_ne h1]; exact h.i
  y := by show (A.cells.set c v)[50]? = _; rw [List.getElem?_set_ne h2]; exact h.y
  c := by show (A.cells.set c v)[4]? = _; rw [List.getElem?_set_ne h3]; exact h.c
  a := by
    obtain ⟨k, e, l⟩ := h.a
    exact ⟨k, by show (A.cells.set c v)[68]? = _; rw [List.getElem?_set_ne h4]; exact e, l⟩
  q := h.q
theorem MI.log {A : AM} {l : List PyData} (h : MI A) : MI { A with log := l } := ⟨h.i, h.y, h.c, h.a, h.q⟩
theorem wordF.gd2 {d : PyData} (h : wordF d) : GV d := by
  obtain ⟨f, r, rfl, hf, hr⟩ := h
  exact ⟨rfl, rfl, Nat.le_of_ble_eq_true rfl, (wordF.gd ⟨f, r, rfl, hf, hr⟩).up (by decide)⟩
theorem GV.none : GV .none := ⟨rfl, rfl, by decide, .none⟩
theorem GV.int {i : Int} : GV (.int i) := ⟨rfl, rfl, by show 1 ≤ 50; decide, .int⟩
theorem rd_write {A A2 : AM} {ds : List PyData} {rd : PyData} (h : A2.tix 0 = A.tix 0) : RdD A A2 "write" ds rd := ⟨by rw [h, if_neg (by decide), Int.add_zero], fun z => absurd z (by decide), fun z => absurd z (by decide), fun z => absurd z (by decide), fun z => absurd z (by decide), fun z => absurd z (by decide)⟩
theorem acc_wr {K : PySem.W.Frag} {H : Hp} {L : ML} {M : MS} {A : AM} {N c : Nat} {v : PyData} (hA : Abs K H L M A N) (g : MI A) (hv : GV v) (hm : mayR "driver" ((0 : Nat) : Int) (c : Int) = true) (h70 : c < 70) (h1 : c ≠ 51) (h2 : c ≠ 50) (h3 : c ≠ 4) (h4 : c ≠ 68)
    (hw : ∀ d', d' < 2 → ∀ p, p < 6 → c = 56 + d' * 6 + p → v = .none ∨ wordF v) : ∃ rd A2, AccOk A 0 "driver" "write" [.int (c : Int), v] rd A2 ∧ MI A2 ∧ RdD A A2 "write" [.int (c : Int), v] rd := by
  have tw : isTw ((0 : Nat) : Int) (c : Int) = true → v = .none ∨ wordF v := fun h => by
    obtain ⟨h1, h2⟩ := isTw_in h
    exact hw 0 (by decide) (c - (56 + 0 * 6)) (by omega) (by omega)
  have hs := hv.sz
  refine ⟨.none, _, ⟨?_, ?_, ⟨rsRW, ["integer", "value"], by simp [formsL], al_write (by decide) hv.iv hm (fun h => wordF.is (tw h))⟩, fun _ h => wordF.form (tw h), .write h70 hv.nl hw⟩, g.set h1 h2 h3 h4, rd_write rfl⟩
  · show (true && (noL v && true)) = true
    rw [hv.nl]
    rfl
  · show 1 + (Rb.sz v + 0) ≤ 4000
    omega
theorem DrvReq.step {K : PySem.W.Frag} {H : Hp} {L : ML} {M : MS} {A : AM} {N : Nat} {w : Str} {ds : List PyData} (hA : Abs K H L M A N) (g : MI A) (h : DrvReq w ds) : ∃ rd A2, AccOk A 0 "driver" w ds rd A2 ∧ MI A2 ∧ RdD A A2 w ds rd := by
  cases h with
  | @tw p v hp hv =>
    refine acc_wr hA g ?_ (may_drv (by decide) (.inr (.inr (.inl (by omega))))) (by omega) (by omega) (by omega) (by omega) (by omega) fun _ _ _ _ _ => hv
    rcases hv with rfl | hv
    · exact .none
    · exact hv.gd2
  | @fr c v hc h4 hv => exact acc_wr hA g hv (may_drv (by decide) (.inl (by omega))) (by omega) (by omega) (by omega) h4 (by omega) fun _ _ _ _ _ => by omega
  | @rg c i hc => exact acc_wr hA g .int (may_drv (by decide) (.inr (.inl (by omega)))) (by omega) (by omega) (by omega) (by omega) (by omega) fun _ _ _ _ _ => by omega
  | @rd c hc =>
    have hl : c < A.cells.length := by
      rw [hA.c7]
      omega
    have hx : A.cells[c]? = some A.cells[c] := List.getElem?_eq_getElem hl
    have hm : mayR "driver" ((0 : Nat) : Int) (c : Int) = true := by
      rcases hc with rfl | rfl | rfl | rfl
      · exact may_drv (by decide) (.inl (by decide))
      · exact may_drv (by decide) (.inr (.inl (by decide)))
      · exact may_drv (by decide) (.inr (.inl (by decide)))
      · exact may_drv (by decide) (.inr (.inr (.inr (by decide))))
    have ec : ∀ {j : Nat} {y : PyData}, ([PyData.int (c : Int)] : List PyData) = [.int (j : Int)] → A.cells[j]? = some y → A.cells[c] = y := fun e ey => by
      injection e with e
      injection e with e
      have e : c = _ := Int.ofNat.inj e
      subst e
      rw [hx] at ey
      exact Option.some.inj ey
    refine ⟨_, A, ⟨rfl, by show 1 + 0 ≤ 4000; omega, ⟨rsRW, ["integer"], by simp [formsL], al_read (by decide) hm⟩, fun z => absurd z (by decide), .read hx⟩, g, ⟨by rw [if_neg (by decide), Int.add_zero], fun z => absurd z (by decide), fun _ e => ec (j := 51) e g.i, fun _ e => ec (j := 50) e g.y, fun _ e => ec (j := 4) e g.c, fun _ e => ?_⟩⟩
    obtain ⟨k, e1, l⟩ := g.a
    exact ⟨k, ec (j := 68) e e1, l⟩
  | @cm p hp =>
    refine ⟨_, _, ⟨rfl, by show 1 + 0 ≤ 4000; omega, ⟨["driver"], ["page"], by simp [formsL], al_gen (by decide) (by decide) (by decide) rfl ?_⟩, fun z => absurd z (by decide), .command⟩, ⟨g.i, g.y, g.c, ?_, fun x hx => ?_⟩, ⟨?_, fun _ => rfl, fun z => absurd z (by decide), fun z => absurd z (by decide), fun z => absurd z (by decide), fun z => absurd z (by decide)⟩⟩
    · show (fitsD "page" (.int (p : Int)) && true) = true
      rw [fits_page hp]
      rfl
    · obtain ⟨k, e, l⟩ := g.a
      refine ⟨k, e, ?_⟩
      show k ≤ updN A.tix 0 (A.tix 0 + 1) 0
      rw [updN_same]
      omega
    · have hx : x ∈ updN A.que 0 (A.que 0 ++ [((p : Int), A.tix 0 + 1)]) 0 := hx
      show x.2 ≤ updN A.tix 0 (A.tix 0 + 1) 0
      rw [updN_same] at hx ⊢
      rcases List.mem_append.mp hx with z | z
      · have := g.q x z
        omega
      · rw [List.mem_singleton.mp z]
        exact Int.le_refl _
    · show updN A.tix 0 (A.tix 0 + 1) 0 = _
      rw [updN_same, if_pos rfl]
/-- the guard drops -/
theorem drop_step {A : AM} (g : MI A) : ∃ rd A2, AccOk A 0 "guard" "drop" [] rd A2 ∧ MI A2 ∧ A2.tix 0 = A.tix 0 := by
  have al : allowB "guard" ((0 : Nat) : Int) "drop" ["guard"] [] [] = true := by decide +kernel
  have fm : ∃ rs ks, (("drop" : Str), rs, ks) ∈ formsL ∧ allowB "guard" ((0 : Nat) : Int) "drop" rs ks [] = true := ⟨["guard"], [], by simp [formsL], al⟩
  cases e : A.que 0 with
  | nil => exact ⟨_, A, ⟨rfl, by show 0 ≤ 4000; omega, fm, fun z => absurd z (by decide), .dropNo e⟩, g, rfl⟩
  | cons x r =>
    obtain ⟨p, n⟩ := x
    refine ⟨_, _, ⟨rfl, by show 0 ≤ 4000; omega, fm, fun z => absurd z (by decide), .drop e⟩, ⟨?_, ?_, ?_, ?_, fun x hx => ?_⟩, rfl⟩
    · show (A.cells.set (68 + 0) (.int n))[51]? = _
      rw [List.getElem?_set_ne (by decide)]
      exact g.i
    · show (A.cells.set (68 + 0) (.int n))[50]? = _
      rw [List.getElem?_set_ne (by decide)]
      exact g.y
    · show (A.cells.set (68 + 0) (.int n))[4]? = _
      rw [List.getElem?_set_ne (by decide)]
      exact g.c
    · obtain ⟨k, ek, l⟩ := g.a
      refine ⟨n, ?_, g.q (p, n) (by rw [e]; exact List.mem_cons_self ..)⟩
      show (A.cells.set (68 + 0) (.int n))[68]? = _
      rw [List.getElem?_set, if_pos rfl, if_pos (List.getElem?_eq_some_iff.mp ek).1]
    · have hx : x ∈ updN A.que 0 r 0 := hx
      rw [updN_same] at hx
      exact g.q x (by rw [e]; exact List.mem_cons_of_mem _ hx)
end Rb
namespace Rb
open PySem PySem.Spec PyProof.Rows L2
/-! ### a list that grows -/
def AccL (K : PySem.W.Frag) (H : Hp) (D : Addr) (ds : List PyData) (Hx : Hp) : Prop := ∃ vs, Hx D = some (.lst vs) ∧ DpAll K Hx vs ds ∧ Same H Hx
def NewL (K : PySem.W.Frag) (H : Hp) (ds : List PyData) (Q : VK) : Prop := ∀ (p : Addr) (xs : List V) (H' : Hp), H p = none → H' p = some (.lst xs) → DpAll K H' xs ds → Same H H' → Q (.ref p) H'
theorem AccL.start {K : PySem.W.Frag} {H : Hp} {D : Addr} (h : H D = none) : AccL K H D [] (upd H D (.lst [])) := ⟨[], upd_same, .nil, Same.new (Same.refl _) h⟩
theorem AccL.put {K : PySem.W.Frag} {H Hx H4 : Hp} {D : Addr} {ds : List PyData} {v : V} {d : PyData} (h : AccL K H D ds Hx) (hD : H D = none) (s : Same Hx H4) (hv : Dp K H4 v d) (nl : noLs ds = true) (nd : noL d = true) (hl : ds.length < 4000) :
    ∃ acc, H4 D = some (.lst acc) ∧ acc.length < sizeLine ∧ AccL K H D (ds ++ [d]) (upd H4 D (.lst (acc ++ [v]))) := by
  obtain ⟨vs, e, hd, s0⟩ := h
  have e4 := s _ _ e
  have ts : TSame K H4 (upd H4 D (.lst (vs ++ [v]))) := TSame.lst e4
  refine ⟨vs, e4, ?_, vs ++ [v], upd_same, ?_, Same.put (s0.trans s) hD⟩
  · rw [Rb.DpAll.len hd, sizeLine_eq]
    omega
  · exact Rb.DpAll.app (Rb.DpAll.ts ts _ _ nl (hd.same s)) (.cons (Rb.Dp.ts ts _ _ nd hv) .nil)
theorem NewL.of {K : PySem.W.Frag} {H Hx : Hp} {D : Addr} {ds : List PyData} {Q : VK} (n : NewL K H ds Q) (hD : H D = none) (h : AccL K H D ds Hx) : Q (.ref D) Hx := by
  obtain ⟨vs, e, hd, s⟩ := h
  exact n D vs Hx hD e hd s
theorem NewL.same {K : PySem.W.Frag} {H H1 : Hp} {ds : List PyData} {Q : VK} (n : NewL K H ds Q) (s : Same H H1) : NewL K H1 ds Q := fun p xs H' f e d t => n p xs H' (s.free f) e d (s.trans t)
theorem cat_new {K : PySem.W.Frag} {H H3 : Hp} {a b : Addr} {xs ys : List V} {ds es : List PyData} {Q : VK} (ha : H3 a = some (.lst xs)) (hx : DpAll K H3 xs ds) (hb : H3 b = some (.lst ys)) (hy : DpAll K H3 ys es) (s : Same H H3) (hl : xs.length + ys.length ≤ 4000) (k : NewL K H (ds ++ es) Q) : rCat (.ref a) (.ref b) H3 Q :=
  ⟨a, b, xs, ys, rfl, rfl, ha, hb, by rw [sizeLine_eq]; omega, fun p hp => by
    have s4 := Same.new (o := HO.lst (xs ++ ys)) (Same.refl _) hp
    exact k p _ _ (s.free hp) upd_same (Rb.DpAll.app (hx.same s4) (hy.same s4)) (s.trans s4)⟩
/-! ### requests, and what the driver does for them -/
def kindS (b : Bool) : Str := if b then "write" else "read"
def rightS (b : Bool) : Str := if b then "r" else "w"
structure RQ where
  wr : Bool
  blk : Nat
  con : List Int
def RQ.parts (r : RQ) : List PyData := if r.wr then [.str "write", .int (r.blk : Int), .tuple (r.con.map .int)] else [.str "read", .int (r.blk : Int)]
def RQ.d (r : RQ) : PyData := .tuple r.parts
structure RQ.Ok (r : RQ) : Prop where
  b : r.blk < 8
  c : r.con.length = 4
/-- what is filled in at first -/
def RQ.cs (r : RQ) : List PyData := if r.wr then r.con.map .int else [.int 0, .int 0, .int 0, .int 0]
theorem noLs_ints : ∀ l : List Int, noLs (l.map .int) = true
  | [] => rfl
  | _ :: l => by
    show (true && noLs (l.map .int)) = true
    rw [noLs_ints l]
    rfl
theorem RQ.nl (r : RQ) : noL r.d = true := by
  show noLs r.parts = true
  unfold RQ.parts
  split
  · show (true && (true && (noLs (r.con.map .int) && true))) = true
    rw [noLs_ints]
    rfl
  · rfl
theorem RQ.cs_nl (r : RQ) : noLs r.cs = true := by
  unfold RQ.cs
  split
  · exact noLs_ints _
  · rfl
theorem RQ.cs_len {r : RQ} (h : r.Ok) : r.cs.length = 4 := by
  unfold RQ.cs
  split
  · rw [List.length_map]
    exact h.c
  · rfl
def fillR (f : Nat) (cs : List PyData) (i : Nat) : PyData := .tuple [.str "write", .int ((f * 4 + i : Nat) : Int), cs[i]?.getD .none]
def fillD (f : Nat) (cs : List PyData) : List PyData := (List.range cs.length).map (fillR f cs)
def descD (k : Nat) (r : RQ) : PyData := .tuple [.int (k : Int), .str (kindS r.wr), .int (r.blk : Int), .int 1, .int (k : Int)]
def handD (k : Nat) (r : RQ) : List PyData := [.tuple [.str "write", .int ((56 + (k + 2) : Nat) : Int), .tuple [.int ((k + 2 : Nat) : Int), .str (rightS r.wr)]], .tuple [.str "write", .int (k : Int), descD k r], .tuple [.str "write", .int ((48 : Nat) : Int), .int ((k + 1 : Nat) : Int)]]
def nilR (p : Nat) : PyData := .tuple [.str "write", .int ((56 + p : Nat) : Int), .none]
def cmdR (p : Nat) : PyData := .tuple [.str "command", .int (p : Int)]
def backD (ps : List Nat) : List PyData := ps.map nilR ++ ps.map cmdR
def lendR (d i : Nat) : PyData := .tuple [.str "write", .int ((56 + d * 6 + i : Nat) : Int), .tuple [.int (i : Int), .str (if i = 0 then "r" else "w")]]
def lendD (d : Nat) : List PyData := [lendR d 0, lendR d 1]
theorem fill_nl {f : Nat} {cs : List PyData} (h : noLs cs = true) (j : Nat) : noLs ((List.range j).map (fillR f cs)) = true := by
  refine noLs_map (fun i => ?_) _
  show (true && (true && (noL (cs[i]?.getD .none) && true))) = true
  cases e : cs[i]? with
  | none => rfl
  | some x =>
    show (true && (true && (noL x && true))) = true
    rw [noLs_at h e]
    rfl
def spFill (K : PySem.W.Frag) : Sp := fun vs H Q _ => ∃ (f : Nat) (cv : V) (cs : List PyData), vs = [.int 0, .int (f : Int), cv] ∧ Dp K H cv (.tuple cs) ∧ noLs cs = true ∧ cs.length ≤ 4 ∧ NewL K H (fillD f cs) Q
def spHand (K : PySem.W.Frag) : Sp := fun vs H Q _ => ∃ (k : Nat) (rv : V) (r : RQ), vs = [.int 0, .int (k : Int), .int ((k + 2 : Nat) : Int), rv, .int (k : Int)] ∧ k < 4 ∧ Dp K H rv r.d ∧ r.Ok ∧ NewL K H (handD k r) Q
def spBack (K : PySem.W.Frag) : Sp := fun vs H Q _ => ∃ (p : Addr) (ps : List Nat), vs = [.int 0, .ref p] ∧ H p = some (.lst (ps.map fun i : Nat => V.int (i : Int))) ∧ ps.length ≤ 10 ∧ NewL K H (backD ps) Q
def spLend (K : PySem.W.Frag) : Sp := fun vs H Q _ => ∃ (d : Nat), vs = [.int (d : Int)] ∧ NewL K H (lendD d) Q
section
variable {P : Program} {w : World} {K : PySem.W.Frag} {mg : Str → Option Value} {base : Heap}
theorem ok_fill (T : Top K mg) : FnC P w K mg base CX0 2 (He.ga K "fill_frame") (spFill K) := by
  have G_frame_cell := ok_frame_cell (P := P) (w := w) (base := base) T
  refine fnc0 T.d_fill_frame sc_fill_frame (fun _ _ _ _ _ _ us hl => match us, hl with | [_, _, _], _ => rfl) (fun vs H Q E h => ?_) (fun cdv A outer s H vs Q E hr h => ?_)
  · obtain ⟨f, cv, cs, rfl, _⟩ := h
    rfl
  · obtain ⟨f, cv, cs, rfl, hc, nl, h4, k⟩ := h
    obtain ⟨t, xs, rfl, ht, hx⟩ := dp_tup hc
    refine ⟨_, (pss_one (ps_ret (pe_lc (own := [("index", 3), ("value", 4)]) (g := gTup K 2 (gCons (gName 3) (gCons (gName 4) (gNil)))) (tt := tYes) rfl sc_fill_frame.nd (pi_enumT (by rfl) T.b_enumerate (pa_cons (pv 2) pa_nil)) (blkOk_by (N := ["device", "frame", "contents", "index", "value"]) (sc := defScope s_fill_frame) (by decide +kernel)) (fun _ _ _ _ _ => (pg_tupK (K := K) (n := 2) rfl rfl (pgs_cons (pg_name (i := 3) sc_fill_frame.nd rfl (Or.inl rfl)) (pgs_cons (pg_name (i := 4) sc_fill_frame.nd rfl (Or.inl rfl)) pgs_nil)))) (fun _ _ _ _ _ => pts_nil) (fun _ _ _ _ _ => (pe_tup (pa_cons pe_str (pa_cons (pe_f G_frame_cell hr (by decide) (by rfl) T.g_frame_cell pass0 (pa_cons (pv 0) (pa_cons (pv 1) (pa_cons (pv 3) pa_nil)))) (pa_cons (pv 4) pa_nil)))))))), ?_⟩
    refine ⟨_, rfl, t, xs, rfl, ht, fun D hD => ?_⟩
    refine lc_enumT (K := K) (a := t) (xs := xs) (fun i H2 => AccL K H D ((List.range i).map (fillR f cs)) H2) ?_ ?_ ?_ ?_
    · exact AccL.start hD
    · rintro i H2 ⟨_, _, _, s⟩
      exact Same.seqT s ht
    · rintro i x Tu H2 hi a hT
      have sT := Same.new (o := HO.tup [V.int (i : Int), x]) (Same.refl _) hT
      obtain ⟨vs, e, hd, s⟩ := id a
      obtain ⟨d, hdi, hdx⟩ := dpAll_get hx hi
      have hil : i < 4 := by
        have := (List.getElem?_eq_some_iff.mp hdi).1
        omega
      refine ⟨Tu, _, rfl, SqT.of upd_same, rfl, _, _, rfl, _, _, rfl, rfl, rfl, ?_⟩
      refine ⟨_, rfl, _, rfl, _, rfl, _, _, _, rfl, _, rfl, (by show 3 ≤ sizeLine; decide), fun q fq => ?_⟩
      have sq := sT.trans (Same.new (o := HO.tup [V.str "write", .int (fcell 0 f i), x]) (Same.refl _) fq)
      have ed : fillR f cs i = .tuple [.str "write", .int ((f * 4 + i : Nat) : Int), d] := by
        unfold fillR
        rw [hdi]
        rfl
      rw [List.range_succ, List.map_append]
      refine a.put hD sq (d := fillR f cs i) ?_ (fill_nl nl i) ?_ (by rw [List.length_map, List.length_range]; omega)
      · rw [ed]
        have ec : fcell 0 (f : Int) (i : Int) = ((f * 4 + i : Nat) : Int) := by
          unfold fcell
          omega
        refine .tup (SqT.of upd_same) (.cons (.str _) (.cons ?_ (.cons (hdx.same (s.trans sq)) .nil)))
        rw [ec]
        exact .int _
      · have := fill_nl (f := f) nl (i + 1)
        rw [List.range_succ, List.map_append, noLs_app] at this
        have := (and2 this).2
        exact (and2 (show (noL (fillR f cs i) && true) = true from this)).1
    · intro H2 a
      refine k.of hD ?_
      unfold fillD
      rw [← Rb.DpAll.len hx]
      exact a
theorem ok_lend (T : Top K mg) : FnC P w K mg base CX0 4 (He.ga K "lend_rings") (spLend K) := by
  have G_table_word := ok_table_word (P := P) (w := w) (base := base) T
  refine fnc0 T.d_lend_rings sc_lend_rings (fun _ _ _ _ _ _ us hl => match us, hl with | [_], _ => rfl) (fun vs H Q E h => ?_) (fun cdv A outer s H vs Q E hr h => ?_)
  · obtain ⟨d, rfl, _⟩ := h
    rfl
  · obtain ⟨d, rfl, k⟩ := h
    refine ⟨_, (pss_one (ps_ret (pe_lc (own := [("page", 1), ("word", 2)]) (g := gTup K 2 (gCons (gName 1) (gCons (gName 2) (gNil)))) (tt := tYes) rfl sc_lend_rings.nd (pi_enumT (by rfl) T.b_enumerate (pa_cons (pe_gc (by rfl) T.c_RING_WORDS) pa_nil)) (blkOk_by (N := ["device", "page", "word"]) (sc := defScope s_lend_rings) (by decide +kernel)) (fun _ _ _ _ _ => (pg_tupK (K := K) (n := 2) rfl rfl (pgs_cons (pg_name (i := 1) sc_lend_rings.nd rfl (Or.inl rfl)) (pgs_cons (pg_name (i := 2) sc_lend_rings.nd rfl (Or.inl rfl)) pgs_nil)))) (fun _ _ _ _ _ => pts_nil) (fun _ _ _ _ _ => (pe_tup (pa_cons pe_str (pa_cons (pe_f G_table_word hr (by decide) (by rfl) T.g_table_word pass0 (pa_cons (pv 0) (pa_cons (pv 1) pa_nil))) (pa_cons (pv 2) pa_nil)))))))), ?_⟩
    refine ⟨_, (List.range 2).map fun i => .ref (adi K (He.ga K "RING_WORDS") i), rfl, T.t_RING_WORDS.top _, fun D hD => ?_⟩
    refine lc_enumT (K := K) (a := He.ga K "RING_WORDS") (xs := (List.range 2).map fun i => .ref (adi K (He.ga K "RING_WORDS") i)) (fun i H2 => AccL K H D ((List.range i).map (lendR d)) H2) ?_ ?_ ?_ ?_
    · exact AccL.start hD
    · rintro i H2 _
      exact T.t_RING_WORDS.top _
    · rintro i x Tu H2 hi a hT
      have sT := Same.new (o := HO.tup [V.int (i : Int), x]) (Same.refl _) hT
      have i2 : i < 2 := (List.getElem?_eq_some_iff.mp hi).1
      refine ⟨Tu, _, rfl, SqT.of upd_same, rfl, _, _, rfl, _, _, rfl, rfl, rfl, ?_⟩
      refine ⟨_, rfl, _, rfl, _, _, rfl, _, rfl, (by show 3 ≤ sizeLine; decide), fun q fq => ?_⟩
      have sq := sT.trans (Same.new (o := HO.tup [V.str "write", .int (tword d i), x]) (Same.refl _) fq)
      rw [List.range_succ, List.map_append]
      refine a.put hD sq (d := lendR d i) ?_ (noLs_map (fun _ => rfl) _) rfl (by rw [List.length_map, List.length_range]; omega)
      have ec : tword (d : Int) (i : Int) = ((56 + d * 6 + i : Nat) : Int) := by
        unfold tword
        omega
      refine .tup (SqT.of upd_same) (.cons (.str _) (.cons ?_ (.cons ?_ .nil)))
      · rw [ec]
        exact .int _
      · rcases (by omega : i = 0 ∨ i = 1) with rfl | rfl
        · cases hi
          exact .tup (T.t_RING_WORDS.row 0 (by decide) _) (.cons (.int _) (.cons (.str _) .nil))
        · cases hi
          exact .tup (T.t_RING_WORDS.row 1 (by decide) _) (.cons (.int _) (.cons (.str _) .nil))
    · intro H2 a
      exact k.of hD a
theorem ok_ring_cell (T : Top K mg) : FnC P w K mg base CX0 2 (He.ga K "ring_cell") (sp3 fun d p n => fcell d p (n % 4)) := by
  have G_frame_cell := ok_frame_cell (P := P) (w := w) (base := base) T
  have G_slot_of := ok_slot_of (P := P) (w := w) (base := base) T
  refine fnc0 T.d_ring_cell sc_ring_cell (fun _ _ _ _ _ _ us hl => match us, hl with | [_, _, _], _ => rfl) (fun vs H Q E h => ?_) (fun cdv A outer s H vs Q E hr h => ?_)
  · obtain ⟨a, b, c, rfl, _⟩ := h
    rfl
  · obtain ⟨a, b, c, rfl, k⟩ := h
    refine ⟨_, (pss_one (ps_ret (pe_f G_frame_cell hr (by decide) (by rfl) T.g_frame_cell pass0 (pa_cons (pv 0) (pa_cons (pv 1) (pa_cons (pe_f G_slot_of hr (by decide) (by rfl) T.g_slot_of pass0 (pa_cons (pv 2) pa_nil)) pa_nil)))))), ?_⟩
    exact ⟨_, rfl, _, rfl, _, rfl, _, rfl, _, _, _, rfl, k⟩
theorem ok_back (T : Top K mg) : FnC P w K mg base CX0 4 (He.ga K "take_back") (spBack K) := by
  have G_table_word := ok_table_word (P := P) (w := w) (base := base) T
  refine fnc0 T.d_take_back sc_take_back (fun _ _ _ _ _ _ us hl => match us, hl with | [_, _], _ => rfl) (fun vs H Q E h => ?_) (fun cdv A outer s H vs Q E hr h => ?_)
  · obtain ⟨p, ps, rfl, _⟩ := h
    rfl
  · obtain ⟨p, ps, rfl, hp, hl, k⟩ := h
    refine ⟨_, (pss_cons (ps_setLc (i := 2) (own := [("page", 3)]) (g := gName 3) (tt := tYes) rfl sc_take_back.nd rfl rfl (sw_true rfl rfl rfl (by decide +kernel)) (pi_list (pv 1)) (blkOk_by (N := ["device", "pages", "words", "page"]) (sc := defScope s_take_back) (by decide +kernel)) (fun _ _ _ _ _ => (pg_name (i := 3) sc_take_back.nd rfl (Or.inl rfl))) (fun _ _ _ _ _ => pts_nil) (fun _ _ _ _ _ => (pe_tup (pa_cons pe_str (pa_cons (pe_f G_table_word hr (by decide) (by rfl) T.g_table_word pass0 (pa_cons (pv 0) (pa_cons (pv 3) pa_nil))) (pa_cons pe_non pa_nil))))))
    (pss_one (ps_ret (pe_op op_cat (pv 2) (pe_lc (own := [("page", 3)]) (g := gName 3) (tt := tYes) rfl sc_take_back.nd (pi_list (pv 1)) (blkOk_by (N := ["device", "pages", "words", "page"]) (sc := defScope s_take_back) (by decide +kernel)) (fun _ _ _ _ _ => (pg_name (i := 3) sc_take_back.nd rfl (Or.inl rfl))) (fun _ _ _ _ _ => pts_nil) (fun _ _ _ _ _ => (pe_tup (pa_cons pe_str (pa_cons (pv 3) pa_nil))))))))), ?_⟩
    refine ⟨_, rfl, p, rfl, ⟨_, SqL.of hp⟩, fun D hD => ?_⟩
    refine lc_list (K := K) (a := p) (xs := ps.map fun i : Nat => V.int (i : Int)) (fun i H2 => AccL K H D ((ps.take i).map nilR) H2) ?_ ?_ ?_ ?_
    · exact AccL.start hD
    · rintro i H2 _ ⟨_, _, _, s⟩
      exact SqL.of (s _ _ hp)
    · rintro i x H2 hi a
      obtain ⟨j, hj, rfl⟩ : ∃ j, ps[i]? = some j ∧ x = V.int (j : Int) := by
        rw [List.getElem?_map] at hi
        cases e : ps[i]? with
        | none =>
          rw [e] at hi
          cases hi
        | some j =>
          rw [e] at hi
          exact ⟨j, rfl, (Option.some.inj hi).symm⟩
      refine ⟨rfl, ?_⟩
      refine ⟨_, rfl, _, rfl, _, _, rfl, (by show 3 ≤ sizeLine; decide), fun q fq => ?_⟩
      rw [List.take_add_one, hj, List.map_append]
      refine a.put hD (Same.new (o := HO.tup [V.str "write", .int (tword 0 j), .non]) (Same.refl _) fq) (d := nilR j) ?_ (noLs_map (fun _ => rfl) _) rfl (by rw [List.length_map, List.length_take]; omega)
      have ec : tword 0 (j : Int) = ((56 + j : Nat) : Int) := by
        unfold tword
        omega
      refine .tup (SqT.of upd_same) (.cons (.str _) (.cons ?_ (.cons .non .nil)))
      rw [ec]
      exact .int _
    rintro H2 ⟨vs, e2, hvs, s2⟩
    rw [List.length_map, List.take_length] at hvs
    refine ⟨_, rfl, _, rfl, p, rfl, ⟨_, SqL.of (s2 _ _ hp)⟩, fun D2 hD2 => ?_⟩
    refine lc_list (K := K) (a := p) (xs := ps.map fun i : Nat => V.int (i : Int)) (fun i H3 => AccL K H2 D2 ((ps.take i).map cmdR) H3) ?_ ?_ ?_ ?_
    · exact AccL.start hD2
    · rintro i H3 _ ⟨_, _, _, s⟩
      exact SqL.of (s _ _ (s2 _ _ hp))
    · rintro i x H3 hi a
      obtain ⟨j, hj, rfl⟩ : ∃ j, ps[i]? = some j ∧ x = V.int (j : Int) := by
        rw [List.getElem?_map] at hi
        cases e : ps[i]? with
        | none =>
          rw [e] at hi
          cases hi
        | some j =>
          rw [e] at hi
          exact ⟨j, rfl, (Option.some.inj hi).symm⟩
      refine ⟨rfl, ?_⟩
      refine ⟨_, rfl, (by show 2 ≤ sizeLine; decide), fun q fq => ?_⟩
      rw [List.take_add_one, hj, List.map_append]
      exact a.put hD2 (Same.new (o := HO.tup [V.str "command", .int j]) (Same.refl _) fq) (d := cmdR j) (.tup (SqT.of upd_same) (.cons (.str _) (.cons (.int _) .nil))) (noLs_map (fun _ => rfl) _) rfl (by rw [List.length_map, List.length_take]; omega)
    rintro H3 ⟨ws, e3, hws, s3⟩
    rw [List.length_map, List.take_length] at hws
    exact cat_new (s3 _ _ e2) (hvs.same s3) e3 hws (s2.trans s3) (by rw [Rb.DpAll.len hvs, Rb.DpAll.len hws, List.length_map, List.length_map]; omega) k
theorem kind_is (b : Bool) : isKind (.str (kindS b)) = true := by cases b <;> decide +kernel
theorem ok_hand (T : Top K mg) : FnC P w K mg base CX0 6 (He.ga K "hand_over") (spHand K) := by
  have G_table_word := ok_table_word (P := P) (w := w) (base := base) T
  have G_buffer_page := ok_buffer_page (P := P) (w := w) (base := base) T
  have G_ring_cell := ok_ring_cell (P := P) (w := w) (base := base) T
  have G_descriptor := ok_descriptor (P := P) (w := w) (base := base) T
  have G_doorbell := ok_doorbell (P := P) (w := w) (base := base) T
  refine fnc0 T.d_hand_over sc_hand_over (fun _ _ _ _ _ _ us hl => match us, hl with | [_, _, _, _, _], _ => rfl) (fun vs H Q E h => ?_) (fun cdv A outer s H vs Q E hr h => ?_)
  · obtain ⟨n, rv, r, rfl, _⟩ := h
    rfl
  · obtain ⟨n, rv, r, rfl, hn, hr2, ok, k⟩ := h
    obtain ⟨t, xs, rfl, ht, hx⟩ := dp_tup hr2
    obtain ⟨rest, ex⟩ : ∃ rest, xs = .str (kindS r.wr) :: .int (r.blk : Int) :: rest := by
      unfold RQ.parts at hx
      cases hw : r.wr with
      | true =>
        rw [hw] at hx
        cases hx with
        | cons h1 hx =>
          cases h1
          cases hx with
          | cons h2 hx =>
            cases h2
            exact ⟨_, rfl⟩
      | false =>
        rw [hw] at hx
        cases hx with
        | cons h1 hx =>
          cases h1
          cases hx with
          | cons h2 hx =>
            cases h2
            exact ⟨_, rfl⟩
    subst ex
    refine ⟨_, (pss_cons (ps_par (i := 5) (j := 6) rfl sc_hand_over.nd rfl rfl (by decide) rfl rfl (pa_cons (pe_ix ix_tup (pv 3) pe_int (fun _ _ => rfl)) (pa_cons (pe_ix ix_tup (pv 3) pe_int (fun _ _ => rfl)) pa_nil)) rfl)
    (pss_cons (ps_set (i := 7) sc_hand_over.nd rfl (Or.inl rfl) (pe_ifExp (pt_cmpR op_eq (pv 5) pe_str (nomark _)) pe_str pe_str))
    (pss_one (ps_ret (pe_lst (pa_cons (pe_tup (pa_cons pe_str (pa_cons (pe_f G_table_word hr (by decide) (by rfl) T.g_table_word pass0 (pa_cons (pv 0) (pa_cons (pe_f G_buffer_page hr (by decide) (by rfl) T.g_buffer_page pass0 (pa_cons (pv 1) pa_nil)) pa_nil))) (pa_cons (pe_tup (pa_cons (pv 2) (pa_cons (pv 7) pa_nil))) pa_nil)))) (pa_cons (pe_tup (pa_cons pe_str (pa_cons (pe_f G_ring_cell hr (by decide) (by rfl) T.g_ring_cell pass0 (pa_cons (pv 0) (pa_cons (pe_gc (by rfl) T.c_SUBMISSIONS) (pa_cons (pv 4) pa_nil)))) (pa_cons (pe_f G_descriptor hr (by decide) (by rfl) T.g_descriptor passL (pa_cons (pv 1) (pa_cons (pv 5) (pa_cons (pv 6) (pa_cons (pv 4) pa_nil))))) pa_nil)))) (pa_cons (pe_tup (pa_cons pe_str (pa_cons (pe_f G_doorbell hr (by decide) (by rfl) T.g_doorbell pass0 (pa_cons (pv 0) pa_nil)) (pa_cons (pe_op op_add (pv 4) pe_int) pa_nil)))) pa_nil)))))))), ?_⟩
    refine ⟨_, rfl, t, _, ((0 : Nat) : Int), .str (kindS r.wr), rfl, rfl, ht, atI_n (j := 0) rfl, _, rfl, t, _, ((1 : Nat) : Int), .int (r.blk : Int), rfl, rfl, ht, atI_n (j := 1) rfl, _, _, rfl, ?_⟩
    have ph : phI (n : Int) = 1 := by
      unfold phI
      omega
    have fit : fitD (.int (n : Int)) (.str (kindS r.wr)) (.int (r.blk : Int)) (.int (n : Int)) = true := by
      show ((isNum (.int (n : Int)) 4 && (isKind (.str (kindS r.wr)) && isNum (.int (r.blk : Int)) 8)) && isNat (.int (n : Int))) = true
      rw [show isNum (.int (n : Int)) 4 = true from isNum_nat (n := 4) hn, kind_is, show isNum (.int (r.blk : Int)) 8 = true from isNum_nat (n := 8) ok.b, show isNat (.int (n : Int)) = true from decide_eq_true (show (0 : Int) ≤ (n : Int) by omega)]
      rfl
    have go : ∀ (X Y : Prop), (r.wr = true → Y) → (r.wr = false → X) → if decide (V.str (kindS r.wr) = V.str "read") = true then X else Y := fun X Y hy hx => by
      cases hw : r.wr with
      | true => exact iteN (by decide +kernel) (hy hw)
      | false => exact iteY (by decide +kernel) (hx hw)
    have ek : ∀ (rt : Str), rt = rightS r.wr → ∀ q1, H q1 = none → ∀ q2, (upd H q1 (.tup [.int ((n : Int) + 2), .str rt])) q2 = none → True := fun _ _ _ _ _ _ => trivial
    refine ⟨_, rfl, rfl, _, rfl, ?_⟩
    refine go _ _ (fun hw => ?_) (fun hw => ?_)
    all_goals
      refine ⟨_, rfl, _, rfl, _, rfl, _, _, rfl, ?_⟩
      refine ⟨_, rfl, _, rfl, (by show 2 ≤ sizeLine; decide), fun q1 f1 => ⟨(by show 3 ≤ sizeLine; decide), fun q2 f2 => ?_⟩⟩
      have s1 := Same.new (o := HO.tup [V.int ((n + 2 : Nat) : Int), .str (rightS r.wr)]) (Same.refl _) f1
      refine ⟨_, rfl, _, rfl, _, _, _, rfl, _, rfl, _, rfl, _, rfl, _, rfl, _, _, _, _, rfl, trivial, trivial, trivial, trivial, fun m em _ q3 f3 => ?_, fun z => absurd z (by rw [fit]; decide)⟩
      cases em
      refine ⟨(by show 3 ≤ sizeLine; decide), fun q4 f4 => ?_⟩
      refine ⟨_, rfl, _, rfl, _, rfl, _, _, rfl, rfl, (by show 3 ≤ sizeLine; decide), fun q5 f5 => ?_⟩
      refine ⟨(by show 3 ≤ sizeLine; decide), fun p fp => ?_⟩
      have t5 := Same.new (o := HO.lst [V.ref q2, V.ref q4, V.ref q5]) (Same.refl _) fp
      have t4 := (Same.new (o := HO.tup [V.str "write", V.int (dbell 0), V.int ((n : Int) + 1)]) (Same.refl _) f5).trans t5
      have t3 := (Same.new (o := HO.tup [V.str "write", V.int (fcell 0 0 ((n : Int) % 4)), V.ref q3]) (Same.refl _) f4).trans t4
      have t2 := (Same.new (o := HO.tup [V.int (n : Int), V.str (kindS r.wr), V.int (r.blk : Int), V.int (phI n), V.int (n : Int)]) (Same.refl _) f3).trans t3
      have t1 := (Same.new (o := HO.tup [V.str "write", V.int (tword 0 ((n : Int) + 2)), V.ref q1]) (Same.refl _) f2).trans t2
      have t0 := (Same.new (o := HO.tup [V.int ((n + 2 : Nat) : Int), V.str _]) (Same.refl _) f1).trans t1
      have c1 : tword 0 ((n : Int) + 2) = ((56 + (n + 2) : Nat) : Int) := by
        unfold tword
        omega
      have c2 : fcell 0 0 ((n : Int) % 4) = (n : Int) := by
        unfold fcell
        omega
      refine k p _ _ (free_upd (free_upd (free_upd (free_upd (free_upd fp).2).2).2).2).2 upd_same (.cons (.tup (SqT.of (t2 _ _ upd_same)) (.cons (.str _) (.cons (by rw [c1]; exact .int _) (.cons (.tup (SqT.of (t1 _ _ upd_same)) (.cons (.int _) (.cons (by rw [hw]; exact .str _) .nil))) .nil)))) (.cons (.tup (SqT.of (t4 _ _ upd_same)) (.cons (.str _) (.cons (by show Dp K _ (V.int (fcell 0 0 ((n : Int) % 4))) _; rw [c2]; exact .int _) (.cons (.tup (SqT.of (t3 _ _ upd_same)) (.cons (.int _) (.cons (.str _) (.cons (.int _) (.cons (by rw [ph]; exact .int _) (.cons (.int _) .nil)))))) .nil)))) (.cons (.tup (SqT.of (t5 _ _ upd_same)) (.cons (.str _) (.cons (.int _) (.cons (.int _) .nil)))) .nil))) t0
end
end Rb
namespace Rb
open PySem PySem.Spec PyProof.Rows L2
/-! ### the driver in the heap -/
def CR (K : PySem.W.Frag) : Addr := He.ga K "Driver"
def CL (K : PySem.W.Frag) : Addr := He.ga K "Clients"
def CE (K : PySem.W.Frag) : Addr := He.ga K "Errand"
def CS (K : PySem.W.Frag) : Addr := He.ga K "Sending"
def rNames : List Str := ["generation", "completions", "resets", "broken", "_memory", "_device", "_without", "_clients", "_unsent", "_under_way", "_free", "_sequence", "_patience", "_is_wrong", "_made", "_sending", "_contents", "_left", "_results", "_then", "_ticket", "_behind", "_readings"]
structure FV where
  bk : Bool
  mm : Addr
  dv : Int
  cl : Addr
  un : Addr
  uw : Addr
  fr : Addr
  sq : Int
  pt : Int
  wr : Bool
  md : Int
  sn : V
  le : Addr
  re : Addr
  th : V
  tk : Int
  bh : V
  rg : Int
def rFld (f : FV) : List (Str × V) := List.zip rNames [.int 0, .int 0, .int 0, .bl f.bk, .ref f.mm, .int f.dv, .int 0, .ref f.cl, .ref f.un, .ref f.uw, .ref f.fr, .int f.sq, .int f.pt, .bl f.wr, .int f.md, f.sn, .non, .ref f.le, .ref f.re, f.th, .int f.tk, f.bh, .int f.rg]
def eNames : List Str := ["request", "answer", "first", "last", "sendings"]
def eFld (r a f l s : V) : List (Str × V) := List.zip eNames [r, a, f, l, s]
def sNames : List Str := ["index", "request", "sequence", "tag", "frame", "rung"]
def sFld (k : Nat) (r : V) (u : Int) : List (Str × V) := List.zip sNames [.int (k : Int), r, .int (k : Int), .int (k : Int), .int ((k + 2 : Nat) : Int), .int u]
section
variable {f : FV} {r a b l s x : V} {k : Nat} {u v : Int}
theorem lr_gen : (rFld f).lookup ("generation" : Str) = some (.int 0) := zl (i := 0) (by decide +kernel) rfl
theorem lr_com : (rFld f).lookup ("completions" : Str) = some (.int 0) := zl (i := 1) (by decide +kernel) rfl
theorem lr_bk : (rFld f).lookup ("broken" : Str) = some (.bl f.bk) := zl (i := 3) (by decide +kernel) rfl
theorem lr_mm : (rFld f).lookup ("_memory" : Str) = some (.ref f.mm) := zl (i := 4) (by decide +kernel) rfl
theorem lr_dv : (rFld f).lookup ("_device" : Str) = some (.int f.dv) := zl (i := 5) (by decide +kernel) rfl
theorem lr_wo : (rFld f).lookup ("_without" : Str) = some (.int 0) := zl (i := 6) (by decide +kernel) rfl
theorem lr_cl : (rFld f).lookup ("_clients" : Str) = some (.ref f.cl) := zl (i := 7) (by decide +kernel) rfl
theorem lr_un : (rFld f).lookup ("_unsent" : Str) = some (.ref f.un) := zl (i := 8) (by decide +kernel) rfl
theorem lr_uw : (rFld f).lookup ("_under_way" : Str) = some (.ref f.uw) := zl (i := 9) (by decide +kernel) rfl
theorem lr_fr : (rFld f).lookup ("_free" : Str) = some (.ref f.fr) := zl (i := 10) (by decide +kernel) rfl
theorem lr_sq : (rFld f).lookup ("_sequence" : Str) = some (.int f.sq) := zl (i := 11) (by decide +kernel) rfl
theorem lr_pt : (rFld f).lookup ("_patience" : Str) = some (.int f.pt) := zl (i := 12) (by decide +kernel) rfl
theorem lr_wr : (rFld f).lookup ("_is_wrong" : Str) = some (.bl f.wr) := zl (i := 13) (by decide +kernel) rfl
theorem lr_md : (rFld f).lookup ("_made" : Str) = some (.int f.md) := zl (i := 14) (by decide +kernel) rfl
theorem lr_sn : (rFld f).lookup ("_sending" : Str) = some f.sn := zl (i := 15) (by decide +kernel) rfl
theorem lr_le : (rFld f).lookup ("_left" : Str) = some (.ref f.le) := zl (i := 17) (by decide +kernel) rfl
theorem lr_re : (rFld f).lookup ("_results" : Str) = some (.ref f.re) := zl (i := 18) (by decide +kernel) rfl
theorem lr_th : (rFld f).lookup ("_then" : Str) = some f.th := zl (i := 19) (by decide +kernel) rfl
theorem lr_tk : (rFld f).lookup ("_ticket" : Str) = some (.int f.tk) := zl (i := 20) (by decide +kernel) rfl
theorem lr_bh : (rFld f).lookup ("_behind" : Str) = some f.bh := zl (i := 21) (by decide +kernel) rfl
theorem lr_rg : (rFld f).lookup ("_readings" : Str) = some (.int f.rg) := zl (i := 22) (by decide +kernel) rfl
theorem pr_bk {c : Bool} : putF ("broken" : Str) (.bl c) (rFld f) = rFld { f with bk := c } := zp (i := 3) (by decide +kernel) rfl
theorem pr_uw {c : Addr} : putF ("_under_way" : Str) (.ref c) (rFld f) = rFld { f with uw := c } := zp (i := 9) (by decide +kernel) rfl
theorem pr_fr {c : Addr} : putF ("_free" : Str) (.ref c) (rFld f) = rFld { f with fr := c } := zp (i := 10) (by decide +kernel) rfl
theorem pr_sq {c : Int} : putF ("_sequence" : Str) (.int c) (rFld f) = rFld { f with sq := c } := zp (i := 11) (by decide +kernel) rfl
theorem pr_pt {c : Int} : putF ("_patience" : Str) (.int c) (rFld f) = rFld { f with pt := c } := zp (i := 12) (by decide +kernel) rfl
theorem pr_wr {c : Bool} : putF ("_is_wrong" : Str) (.bl c) (rFld f) = rFld { f with wr := c } := zp (i := 13) (by decide +kernel) rfl
theorem pr_md {c : Int} : putF ("_made" : Str) (.int c) (rFld f) = rFld { f with md := c } := zp (i := 14) (by decide +kernel) rfl
theorem pr_sn : putF ("_sending" : Str) x (rFld f) = rFld { f with sn := x } := zp (i := 15) (by decide +kernel) rfl
theorem pr_le {c : Addr} : putF ("_left" : Str) (.ref c) (rFld f) = rFld { f with le := c } := zp (i := 17) (by decide +kernel) rfl
theorem pr_re {c : Addr} : putF ("_results" : Str) (.ref c) (rFld f) = rFld { f with re := c } := zp (i := 18) (by decide +kernel) rfl
theorem pr_th : putF ("_then" : Str) x (rFld f) = rFld { f with th := x } := zp (i := 19) (by decide +kernel) rfl
theorem pr_tk {c : Int} : putF ("_ticket" : Str) (.int c) (rFld f) = rFld { f with tk := c } := zp (i := 20) (by decide +kernel) rfl
theorem pr_bh : putF ("_behind" : Str) x (rFld f) = rFld { f with bh := x } := zp (i := 21) (by decide +kernel) rfl
theorem pr_rg {c : Int} : putF ("_readings" : Str) (.int c) (rFld f) = rFld { f with rg := c } := zp (i := 22) (by decide +kernel) rfl
theorem le_rq : (eFld r a b l s).lookup ("request" : Str) = some r := zl (i := 0) (by decide +kernel) rfl
theorem le_an : (eFld r a b l s).lookup ("answer" : Str) = some a := zl (i := 1) (by decide +kernel) rfl
theorem le_fi : (eFld r a b l s).lookup ("first" : Str) = some b := zl (i := 2) (by decide +kernel) rfl
theorem le_la : (eFld r a b l s).lookup ("last" : Str) = some l := zl (i := 3) (by decide +kernel) rfl
theorem le_sd : (eFld r a b l s).lookup ("sendings" : Str) = some s := zl (i := 4) (by decide +kernel) rfl
theorem pe_an : putF ("answer" : Str) x (eFld r a b l s) = eFld r x b l s := zp (i := 1) (by decide +kernel) rfl
theorem pe_fi : putF ("first" : Str) x (eFld r a b l s) = eFld r a x l s := zp (i := 2) (by decide +kernel) rfl
theorem pe_la : putF ("last" : Str) x (eFld r a b l s) = eFld r a b x s := zp (i := 3) (by decide +kernel) rfl
theorem pe_sd : putF ("sendings" : Str) x (eFld r a b l s) = eFld r a b l x := zp (i := 4) (by decide +kernel) rfl
theorem ls_ix : (sFld k r u).lookup ("index" : Str) = some (.int (k : Int)) := zl (i := 0) (by decide +kernel) rfl
theorem ls_rq : (sFld k r u).lookup ("request" : Str) = some r := zl (i := 1) (by decide +kernel) rfl
theorem ls_sq : (sFld k r u).lookup ("sequence" : Str) = some (.int (k : Int)) := zl (i := 2) (by decide +kernel) rfl
theorem ls_tg : (sFld k r u).lookup ("tag" : Str) = some (.int (k : Int)) := zl (i := 3) (by decide +kernel) rfl
theorem ls_fr : (sFld k r u).lookup ("frame" : Str) = some (.int ((k + 2 : Nat) : Int)) := zl (i := 4) (by decide +kernel) rfl
theorem ls_ru : (sFld k r u).lookup ("rung" : Str) = some (.int u) := zl (i := 5) (by decide +kernel) rfl
theorem ps_ru : putF ("rung" : Str) (.int v) (sFld k r u) = sFld k r v := zp (i := 5) (by decide +kernel) rfl
end
inductive Th
  | rest | ends | intr | comp | tick | ackn | rdy
def Th.nm : Th → Str
  | .rest => "_rest" | .ends => "_end_sending" | .intr => "_take_interrupt" | .comp => "_take_completion" | .tick => "_take_ticket" | .ackn => "_take_acknowledge" | .rdy => "_take_ready"
structure EX where
  j : Addr
  d : Addr
  rq : RQ
  fi : Option Int
  an : Option Int
  sd : Nat
structure SX where
  j : Addr
  d : Addr
  k : Nat
  rq : RQ
  ru : Int
def EX.all (x : EX) : List Addr := [x.j, x.d]
def SX.all (x : SX) : List Addr := [x.j, x.d]
def optV : Option Int → V
  | none => .non
  | some i => .int i
def ansD : Option Int → PyData
  | none => .none
  | some _ => .tuple [.str "broken", .none]
theorem ansD_nl (a : Option Int) : noL (ansD a) = true := by cases a <;> rfl
structure ErrAt (K : PySem.W.Frag) (H : Hp) (x : EX) : Prop where
  oj : ∃ rv av st sx, H x.j = some (.ins (CE K) x.d (eFld rv av (optV x.fi) (optV x.an) (.ref st))) ∧ Dp K H rv x.rq.d ∧ Dp K H av (ansD x.an) ∧ SqT K H st sx ∧ sx.length = x.sd
  od : H x.d = some (.own x.j)
structure SndAt (K : PySem.W.Frag) (H : Hp) (x : SX) : Prop where
  oj : ∃ rv, H x.j = some (.ins (CS K) x.d (sFld x.k rv x.ru)) ∧ Dp K H rv x.rq.d
  od : H x.d = some (.own x.j)
structure DV where
  o : Addr
  d : Addr
  cl : Addr
  cd : Addr
  el : Addr
  un : Addr
  uw : Addr
  fr : Addr
  le : Addr
  re : Addr
  q : Addr
  th : Th
  bh : Option Addr
  bk : Bool
  dv : Int
  sq : Int
  pt : Int
  wr : Bool
  md : Int
  tk : Int
  rg : Int
  sn : V
  es : List EX
  ss : List SX
  n : Nat
  unsent : List Int
  free : List Int
  left : List PyData
  res : List PyData
def bhV : Option Addr → V
  | none => .non
  | some b => .ref b
def DV.f (X : DV) (mm : Addr) : FV := ⟨X.bk, mm, X.dv, X.cl, X.un, X.uw, X.fr, X.sq, X.pt, X.wr, X.md, X.sn, X.le, X.re, .ref X.q, X.tk, bhV X.bh, X.rg⟩
def uwK (ss : List SX) : List (Key × V) := ss.map fun x => (Sum.inl (x.k : Int), .ref x.j)
def DV.all (X : DV) : List Addr := [X.o, X.d, X.cl, X.cd, X.el, X.un, X.uw, X.fr, X.le, X.re, X.q] ++ (X.bh.toList ++ (X.es.flatMap EX.all ++ X.ss.flatMap SX.all))
/-- what no step of a driver changes -/
structure CoreAt (K : PySem.W.Frag) (H : Hp) (X : DV) : Prop where
  od : H X.d = some (.own X.o)
  oc : H X.cl = some (.ins (CL K) X.cd (List.zip ["_errands"] [.ref X.el]))
  ocd : H X.cd = some (.own X.cl)
  oel : H X.el = some (.lst (X.es.map fun x => .ref x.j))
structure MetAt (K : PySem.W.Frag) (H : Hp) (X : DV) : Prop where
  oth : H X.q = some (.met (He.ma K (CR K) X.th.nm) X.o)
  obh : ∀ b, X.bh = some b → H b = some (.met (He.ma K (CR K) "_ask_for_reset") X.o)
structure LstAt (K : PySem.W.Frag) (H : Hp) (a : Addr) (ds : List PyData) : Prop where
  e : ∃ xs, H a = some (.lst xs) ∧ DpAll K H xs ds
  nl : noLs ds = true
structure DrvAt (K : PySem.W.Frag) (H : Hp) (mm : Addr) (X : DV) : Prop where
  oo : H X.o = some (.ins (CR K) X.d (rFld (X.f mm)))
  co : CoreAt K H X
  mt : MetAt K H X
  es : ∀ x ∈ X.es, ErrAt K H x
  ss : ∀ x ∈ X.ss, SndAt K H x
  oun : H X.un = some (.lst (X.unsent.map .int))
  ouw : H X.uw = some (.dK (uwK (X.ss.take X.n)))
  ofr : H X.fr = some (.lst (X.free.map .int))
  ole : LstAt K H X.le X.left
  ore : LstAt K H X.re X.res
  nl : [X.el, X.un, X.fr, X.le, X.re].Nodup
  ne : (X.es.map (·.j)).Nodup
  ns : (X.ss.map (·.j)).Nodup
def tg : HO → Nat
  | .ins _ _ fs => 100 + fs.length
  | .own _ => 1
  | .lst _ => 2
  | .dK _ => 3
  | .met _ _ => 4
  | _ => 0
/-- places that a driver may change -/
def Mv (H : Hp) (el : Addr) (S : List Addr) : Prop := ∀ b ∈ S, b ≠ el ∧ ∃ o, H b = some o ∧ (tg o = 2 ∨ tg o = 3 ∨ tg o = 105 ∨ tg o = 106 ∨ tg o = 123)
theorem tg_ne {H : Hp} {a b : Addr} {x y : HO} (ha : H a = some x) (hb : H b = some y) (h : tg x ≠ tg y) : a ≠ b := fun z => by
  rw [z, hb] at ha
  injection ha with ha
  exact h (by rw [ha])
theorem Mv.nin {H : Hp} {el a : Addr} {S : List Addr} {x : HO} (m : Mv H el S) (ha : H a = some x) (h : tg x ≠ 2 ∧ tg x ≠ 3 ∧ tg x ≠ 105 ∧ tg x ≠ 106 ∧ tg x ≠ 123) : a ∉ S := fun z => by
  obtain ⟨_, o, e, t⟩ := m a z
  rw [ha] at e
  injection e with e
  subst e
  omega
theorem Mv.noT {H : Hp} {el : Addr} {S : List Addr} (m : Mv H el S) : NoT S H := fun b hb => by
  obtain ⟨_, o, e, t⟩ := m b hb
  rw [e]
  refine ⟨fun xs z => ?_, fun ob xs z => ?_⟩ <;> injection z with z <;> subst z <;> simp [tg] at t
theorem CoreAt.keep {K : PySem.W.Frag} {H H' : Hp} {X : DV} {S : List Addr} (h : CoreAt K H X) (ks : KS S H H') (m : Mv H X.el S) : CoreAt K H' X :=
  ⟨ks _ _ h.od (m.nin h.od (by simp [tg])), ks _ _ h.oc (m.nin h.oc (by simp [tg])), ks _ _ h.ocd (m.nin h.ocd (by simp [tg])), ks _ _ h.oel fun z => (m _ z).1 rfl⟩
theorem MetAt.keep {K : PySem.W.Frag} {H H' : Hp} {X : DV} {S : List Addr} {el : Addr} (h : MetAt K H X) (ks : KS S H H') (m : Mv H el S) : MetAt K H' X :=
  ⟨ks _ _ h.oth (m.nin h.oth (by simp [tg])), fun b e => ks _ _ (h.obh b e) (m.nin (h.obh b e) (by simp [tg]))⟩
theorem ErrAt.ts {K : PySem.W.Frag} {H H' : Hp} {x : EX} (h : ErrAt K H x) (e : ∀ b ∈ x.all, H' b = H b) (t : TSame K H H') : ErrAt K H' x := by
  obtain ⟨rv, av, st, sx, ej, h1, h2, h3, h4⟩ := h.oj
  exact ⟨⟨rv, av, st, sx, (e _ (by simp [EX.all])).trans ej, Rb.Dp.ts t _ _ x.rq.nl h1, Rb.Dp.ts t _ _ (ansD_nl _) h2, t _ _ h3, h4⟩, (e _ (by simp [EX.all])).trans h.od⟩
theorem SndAt.ts {K : PySem.W.Frag} {H H' : Hp} {x : SX} (h : SndAt K H x) (e : ∀ b ∈ x.all, H' b = H b) (t : TSame K H H') : SndAt K H' x := by
  obtain ⟨rv, ej, h1⟩ := h.oj
  exact ⟨⟨rv, (e _ (by simp [SX.all])).trans ej, Rb.Dp.ts t _ _ x.rq.nl h1⟩, (e _ (by simp [SX.all])).trans h.od⟩
theorem ErrAt.ks {K : PySem.W.Frag} {H H' : Hp} {x : EX} {S : List Addr} (h : ErrAt K H x) (ks : KS S H H') (nt : NoT S H) (hS : ∀ b ∈ x.all, b ∉ S) : ErrAt K H' x := by
  obtain ⟨rv, av, st, sx, ej, h1, h2, h3, h4⟩ := id h.oj
  refine h.ts (fun b hb => ?_) (ks.ts nt)
  have hb2 := hb
  simp only [EX.all, List.mem_cons, List.not_mem_nil, or_false] at hb2
  rcases hb2 with rfl | rfl
  · rw [ej]
    exact ks _ _ ej (hS _ hb)
  · rw [h.od]
    exact ks _ _ h.od (hS _ hb)
theorem SndAt.ks {K : PySem.W.Frag} {H H' : Hp} {x : SX} {S : List Addr} (h : SndAt K H x) (ks : KS S H H') (nt : NoT S H) (hS : ∀ b ∈ x.all, b ∉ S) : SndAt K H' x := by
  obtain ⟨rv, ej, h1⟩ := id h.oj
  refine h.ts (fun b hb => ?_) (ks.ts nt)
  have hb2 := hb
  simp only [SX.all, List.mem_cons, List.not_mem_nil, or_false] at hb2
  rcases hb2 with rfl | rfl
  · rw [ej]
    exact ks _ _ ej (hS _ hb)
  · rw [h.od]
    exact ks _ _ h.od (hS _ hb)
theorem ErrAt.mv {K : PySem.W.Frag} {H H' : Hp} {x : EX} {S : List Addr} {el : Addr} (h : ErrAt K H x) (ks : KS S H H') (m : Mv H el S) (hj : x.j ∉ S) : ErrAt K H' x := h.ks ks m.noT fun b hb => by
  simp only [EX.all, List.mem_cons, List.not_mem_nil, or_false] at hb
  rcases hb with rfl | rfl
  · exact hj
  · exact m.nin h.od (by simp [tg])
theorem SndAt.mv {K : PySem.W.Frag} {H H' : Hp} {x : SX} {S : List Addr} {el : Addr} (h : SndAt K H x) (ks : KS S H H') (m : Mv H el S) (hj : x.j ∉ S) : SndAt K H' x := h.ks ks m.noT fun b hb => by
  simp only [SX.all, List.mem_cons, List.not_mem_nil, or_false] at hb
  rcases hb with rfl | rfl
  · exact hj
  · exact m.nin h.od (by simp [tg])
theorem LstAt.ks {K : PySem.W.Frag} {H H' : Hp} {a : Addr} {ds : List PyData} {S : List Addr} (h : LstAt K H a ds) (ks : KS S H H') (nt : NoT S H) (ha : a ∉ S) : LstAt K H' a ds := by
  obtain ⟨xs, e, hd⟩ := h.e
  exact ⟨⟨xs, ks _ _ e ha, Rb.DpAll.ts (ks.ts nt) _ _ h.nl hd⟩, h.nl⟩
theorem DV.in_e {X : DV} {x : EX} (h : x ∈ X.es) {b : Addr} (hb : b ∈ x.all) : b ∈ X.all := List.mem_append_right _ (List.mem_append_right _ (List.mem_append_left _ (List.mem_flatMap.mpr ⟨x, h, hb⟩)))
theorem DV.in_s {X : DV} {x : SX} (h : x ∈ X.ss) {b : Addr} (hb : b ∈ x.all) : b ∈ X.all := List.mem_append_right _ (List.mem_append_right _ (List.mem_append_right _ (List.mem_flatMap.mpr ⟨x, h, hb⟩)))
theorem DV.in_b {X : DV} {b : Addr} (h : X.bh = some b) : b ∈ X.all := List.mem_append_right _ (List.mem_append_left _ (by rw [h]; simp))
/-- what lies elsewhere may change -/
theorem DrvAt.ks {K : PySem.W.Frag} {H H' : Hp} {mm : Addr} {X : DV} {S : List Addr} (h : DrvAt K H mm X) (ks : KS S H H') (nt : NoT S H) (hS : ∀ b ∈ X.all, b ∉ S) : DrvAt K H' mm X where
  oo := ks _ _ h.oo (hS _ (by simp [DV.all]))
  co := ⟨ks _ _ h.co.od (hS _ (by simp [DV.all])), ks _ _ h.co.oc (hS _ (by simp [DV.all])), ks _ _ h.co.ocd (hS _ (by simp [DV.all])), ks _ _ h.co.oel (hS _ (by simp [DV.all]))⟩
  mt := ⟨ks _ _ h.mt.oth (hS _ (by simp [DV.all])), fun b e => ks _ _ (h.mt.obh b e) (hS _ (DV.in_b e))⟩
  es := fun x hx => (h.es x hx).ks ks nt fun b hb => hS b (DV.in_e hx hb)
  ss := fun x hx => (h.ss x hx).ks ks nt fun b hb => hS b (DV.in_s hx hb)
  oun := ks _ _ h.oun (hS _ (by simp [DV.all]))
  ouw := ks _ _ h.ouw (hS _ (by simp [DV.all]))
  ofr := ks _ _ h.ofr (hS _ (by simp [DV.all]))
  ole := h.ole.ks ks nt (hS _ (by simp [DV.all]))
  ore := h.ore.ks ks nt (hS _ (by simp [DV.all]))
  nl := h.nl
  ne := h.ne
  ns := h.ns
theorem DrvAt.same {K : PySem.W.Frag} {H H' : Hp} {mm : Addr} {X : DV} (h : DrvAt K H mm X) (s : Same H H') : DrvAt K H' mm X := h.ks (S := []) (KS.of s) (fun b hb => nomatch hb) fun b _ z => nomatch z
theorem DrvAt.here {K : PySem.W.Frag} {H : Hp} {mm : Addr} {X : DV} (h : DrvAt K H mm X) : ∀ b ∈ X.all, ∃ o, H b = some o ∧ (∀ xs, o ≠ .tup xs) ∧ ∀ ob xs, o ≠ .frz ob (.tup xs) := by
  have fin : ∀ {b : Addr} {o : HO}, H b = some o → tg o ≠ 0 → ∃ o, H b = some o ∧ (∀ xs, o ≠ .tup xs) ∧ ∀ ob xs, o ≠ .frz ob (.tup xs) := fun {b o} e t => ⟨o, e, fun xs z => by subst z; exact t rfl, fun ob xs z => by subst z; exact t rfl⟩
  intro b hb
  rcases List.mem_append.mp hb with q | q
  · obtain ⟨xs, e1, _⟩ := h.ole.e
    obtain ⟨ys, e2, _⟩ := h.ore.e
    simp only [List.mem_cons, List.not_mem_nil, or_false] at q
    rcases q with rfl | rfl | rfl | rfl | rfl | rfl | rfl | rfl | rfl | rfl | rfl
    · exact fin h.oo (by simp [tg])
    · exact fin h.co.od (by simp [tg])
    · exact fin h.co.oc (by simp [tg])
    · exact fin h.co.ocd (by simp [tg])
    · exact fin h.co.oel (by simp [tg])
    · exact fin h.oun (by simp [tg])
    · exact fin h.ouw (by simp [tg])
    · exact fin h.ofr (by simp [tg])
    · exact fin e1 (by simp [tg])
    · exact fin e2 (by simp [tg])
    · exact fin h.mt.oth (by simp [tg])
  rcases List.mem_append.mp q with q | q
  · cases e : X.bh with
    | none =>
      rw [e] at q
      exact nomatch q
    | some c =>
      rw [e] at q
      simp at q
      subst q
      exact fin (h.mt.obh _ e) (by simp [tg])
  rcases List.mem_append.mp q with q | q
  · obtain ⟨x, hx, hb⟩ := List.mem_flatMap.mp q
    simp only [EX.all, List.mem_cons, List.not_mem_nil, or_false] at hb
    rcases hb with rfl | rfl
    · obtain ⟨_, _, _, _, e, _⟩ := (h.es x hx).oj
      exact fin e (by simp [tg])
    · exact fin (h.es x hx).od (by simp [tg])
  · obtain ⟨x, hx, hb⟩ := List.mem_flatMap.mp q
    simp only [SX.all, List.mem_cons, List.not_mem_nil, or_false] at hb
    rcases hb with rfl | rfl
    · obtain ⟨_, e, _⟩ := (h.ss x hx).oj
      exact fin e (by simp [tg])
    · exact fin (h.ss x hx).od (by simp [tg])
theorem DrvAt.noT {K : PySem.W.Frag} {H : Hp} {mm : Addr} {X : DV} (h : DrvAt K H mm X) : NoT X.all H := fun b hb => by
  obtain ⟨o, e, h1, h2⟩ := h.here b hb
  exact ⟨fun xs z => by rw [e] at z; exact h1 xs (Option.some.inj z), fun ob xs z => by rw [e] at z; exact h2 ob xs (Option.some.inj z)⟩
theorem DrvAt.nin {K : PySem.W.Frag} {H : Hp} {mm p : Addr} {X : DV} (h : DrvAt K H mm X) (hp : H p = none) : p ∉ X.all := fun z => by
  obtain ⟨o, e, _⟩ := h.here p z
  rw [hp] at e
  cases e
theorem rFld_len {f : FV} : (rFld f).length = 23 := rfl
end Rb
namespace Rb
open PySem PySem.Spec PyProof.Rows L2
theorem DrvAt.mv1 {K : PySem.W.Frag} {H : Hp} {mm : Addr} {X : DV} (h : DrvAt K H mm X) : Mv H X.el [X.o] := fun b hb => by
  rw [List.mem_singleton.mp hb]
  exact ⟨tg_ne h.oo h.co.oel (by simp [tg, rFld_len]), _, h.oo, by simp [tg, rFld_len]⟩
theorem DrvAt.noO {K : PySem.W.Frag} {H : Hp} {mm : Addr} {X : DV} (h : DrvAt K H mm X) : ∀ {a : Addr} {o : HO}, H a = some o → tg o ≠ 123 → a ∉ [X.o] := fun e t z => by
  rw [List.mem_singleton.mp z, h.oo] at e
  injection e with e
  subst e
  exact t (by simp [tg, rFld_len])
theorem tg_ins {C d : Addr} {fs : List (Str × V)} : tg (.ins C d fs) = 100 + fs.length := rfl
theorem eFld_len {r a f l s : V} : (eFld r a f l s).length = 5 := rfl
theorem sFld_len {k : Nat} {r : V} {u : Int} : (sFld k r u).length = 6 := rfl
/-- other fields, other lists -/
theorem DrvAt.remk {K : PySem.W.Frag} {H H' : Hp} {mm : Addr} {X : DV} (h : DrvAt K H mm X) (ks : KS [X.o] H H') {le re q uw fr : Addr} {th : Th} {bh : Option Addr} {bk wr : Bool} {sq pt md tk rg : Int} {sn : V} {left res : List PyData} {free : List Int} {n : Nat}
    (oo : H' X.o = some (.ins (CR K) X.d (rFld (DV.f { X with le := le, re := re, q := q, uw := uw, fr := fr, th := th, bh := bh, bk := bk, wr := wr, sq := sq, pt := pt, md := md, tk := tk, rg := rg, sn := sn, left := left, res := res, free := free, n := n } mm))))
    (ole : LstAt K H' le left) (ore : LstAt K H' re res) (ouw : H' uw = some (.dK (uwK (X.ss.take n)))) (ofr : H' fr = some (.lst (free.map .int)))
    (oth : H' q = some (.met (He.ma K (CR K) th.nm) X.o)) (obh : ∀ b, bh = some b → H' b = some (.met (He.ma K (CR K) "_ask_for_reset") X.o))
    (fle : le = X.le ∨ H le = none) (fre : re = X.re ∨ H re = none) (ffr : fr = X.fr ∨ H fr = none) (n1 : le ≠ re) (n2 : le ≠ fr) (n3 : re ≠ fr) :
    DrvAt K H' mm { X with le := le, re := re, q := q, uw := uw, fr := fr, th := th, bh := bh, bk := bk, wr := wr, sq := sq, pt := pt, md := md, tk := tk, rg := rg, sn := sn, left := left, res := res, free := free, n := n } := by
  have m := h.mv1
  have nl := h.nl
  simp only [List.nodup_cons, List.mem_cons, List.not_mem_nil, or_false, not_or, List.nodup_nil, and_true, not_false_eq_true] at nl
  obtain ⟨⟨a1, a2, a3, a4⟩, ⟨b1, b2, b3⟩, ⟨c1, c2⟩, d1⟩ := nl
  have apart : ∀ {x y : Addr}, (x = y ∨ H x = none) → ∀ {z : Addr} {o : HO}, H z = some o → z ≠ y → z ≠ x := by
    intro x y hx z o e ne
    rcases hx with hx | hx
    · rw [hx]
      exact ne
    · exact ne_of_none e hx
  refine ⟨oo, ?_, ⟨oth, obh⟩, fun x hx => (h.es x hx).mv ks m ?_, fun x hx => (h.ss x hx).mv ks m ?_, ks _ _ h.oun (h.noO h.oun (by simp [tg])), ouw, ofr, ole, ore, ?_, h.ne, h.ns⟩
  · have := h.co.keep ks m
    exact ⟨this.od, this.oc, this.ocd, this.oel⟩
  · obtain ⟨rv, av, st, sx, e, _⟩ := (h.es x hx).oj
    exact h.noO e (by simp [tg, eFld_len])
  · obtain ⟨rv, e, _⟩ := (h.ss x hx).oj
    exact h.noO e (by simp [tg, sFld_len])
  · simp only [List.nodup_cons, List.mem_cons, List.not_mem_nil, or_false, not_or, List.nodup_nil, and_true, not_false_eq_true]
    exact ⟨⟨a1, apart ffr h.co.oel a2, apart fle h.co.oel a3, apart fre h.co.oel a4⟩, ⟨apart ffr h.oun b1, apart fle h.oun b2, apart fre h.oun b3⟩, ⟨n2.symm, n3.symm⟩, n1⟩
def spMk (K : PySem.W.Frag) : Sp := fun vs H Q _ => ∃ (mm rl qn : Addr) (X : DV) (th : Th) (ds : List PyData) (xs : List V), vs = [.ref X.o, .ref rl, .ref qn] ∧ DrvAt K H mm X ∧ H rl = some (.lst xs) ∧ DpAll K H xs ds ∧ noLs ds = true ∧ H qn = some (.met (He.ma K (CR K) th.nm) X.o) ∧
  ∀ (le re : Addr) H', DrvAt K H' mm { X with le := le, re := re, left := ds, res := [], th := th, q := qn } → KS [X.o] H H' → H le = none → H re = none → Q .non H'
section
variable {P : Program} {w : World} {K : PySem.W.Frag} {mg : Str → Option Value} {base : Heap}
theorem ok_make (T : Top K mg) : FnC P w K mg base CX0 1 (He.ma K (He.ga K "Driver") "_make") (spMk K) := by
  refine fnc0 T.d_Driver__make sc_Driver__make (fun _ _ _ _ _ _ us hl => match us, hl with | [_, _, _], _ => rfl) (fun vs H Q E h => ?_) (fun cdv A outer s H vs Q E hr h => ?_)
  · obtain ⟨mm, rl, qn, X, th, ds, xs, rfl, _⟩ := h
    rfl
  · obtain ⟨mm, rl, qn, X, th, ds, xs, rfl, h, hrl, hxs, nl, hqn, k⟩ := h
    refine ⟨_, (pss_cons (ps_fld (pv 0) (pe_callTy call_list_of (by rfl) T.b_list (by decide +kernel) (pa_cons (pv 1) pa_nil)) rfl)
    (pss_cons (ps_fld (pv 0) (pe_lst pa_nil) rfl)
    (pss_one (ps_fld (pv 0) (pv 2) rfl)))), ?_⟩
    refine ⟨_, rfl, rl, xs, rfl, .inl (SqL.of hrl), fun l hl => ?_⟩
    have nol : X.o ≠ l := ne_of_none h.oo hl
    refine ⟨_, rfl, X.o, CR K, X.d, _, rfl, (upd_ne nol).trans h.oo, T.cl_Driver, T.na_Driver__left, (by show 23 < 1000; decide), ?_⟩
    rw [pr_le]
    refine ⟨(by show 0 ≤ sizeLine; exact Nat.zero_le _), fun r hr2 => ?_⟩
    obtain ⟨nr, hr3⟩ := free_upd hr2
    obtain ⟨nrl, hr4⟩ := free_upd hr3
    refine ⟨_, rfl, X.o, CR K, X.d, _, rfl, (upd_ne nr.symm).trans upd_same, T.cl_Driver, T.na_Driver__results, (by show 23 < 1000; decide), ?_⟩
    rw [pr_re]
    refine ⟨_, rfl, _, rfl, X.o, CR K, X.d, _, rfl, upd_same, T.cl_Driver, T.na_Driver__then, (by show 23 < 1000; decide), ?_⟩
    rw [pr_th]
    have nol2 : l ≠ X.o := nol.symm
    have ks := ((((KS.refl (S := [X.o]) (H := H)).put (o := .lst xs) hl).upd (p := X.o) (o := .ins (CR K) X.d (rFld { X.f mm with le := l })) (by simp)).put (o := .lst []) hr4).upd (p := X.o) (o := .ins (CR K) X.d (rFld { X.f mm with le := l, re := r })) (by simp)
    have ks := ks.upd (p := X.o) (o := .ins (CR K) X.d (rFld { X.f mm with le := l, re := r, th := .ref qn })) (by simp)
    have ts := ks.ts (K := K) h.mv1.noT
    refine k l r _ (h.remk ks upd_same ⟨⟨xs, ?_, Rb.DpAll.ts ts _ _ nl hxs⟩, nl⟩ ⟨⟨[], ?_, .nil⟩, rfl⟩ (ks _ _ h.ouw (h.noO h.ouw (by simp [tg]))) (ks _ _ h.ofr (h.noO h.ofr (by simp [tg]))) (ks _ _ hqn (h.noO hqn (by simp [tg]))) (fun b e => ks _ _ (h.mt.obh b e) (h.noO (h.mt.obh b e) (by simp [tg]))) (.inr hl) (.inr hr4) (.inl rfl) nrl.symm (ne_of_none h.ofr hl).symm (ne_of_none h.ofr hr4).symm) ks hl hr4
    · exact (upd_ne nol2).trans ((upd_ne nol2).trans ((upd_ne nrl.symm).trans ((upd_ne nol2).trans upd_same)))
    · exact (upd_ne nr).trans ((upd_ne nr).trans upd_same)
end
end Rb
namespace Rb
open PySem PySem.Spec PyProof.Rows L2
theorem map_set' {α β : Type} (f : α → β) : ∀ (l : List α) (i : Nat) (x : α), (l.set i x).map f = (l.map f).set i (f x)
  | [], _, _ => by simp
  | _ :: _, 0, _ => by simp
  | a :: l, i + 1, x => by
    show f a :: (l.set i x).map f = f a :: (l.map f).set i (f x)
    rw [map_set' f l i x]
theorem set_self {α : Type} : ∀ {l : List α} {i : Nat} {x : α}, l[i]? = some x → l.set i x = l
  | [], _, _, h => by simp at h
  | a :: l, 0, x, h => by
    simp at h
    rw [h]
    rfl
  | a :: l, i + 1, x, h => by
    show a :: l.set i x = a :: l
    rw [set_self (l := l) (i := i) (by simpa using h)]
theorem set_mem {α β : Type} {f : α → β} : ∀ {l : List α} {i : Nat} {x x' y : α}, (l.map f).Nodup → l[i]? = some x → y ∈ l.set i x' → y = x' ∨ (y ∈ l ∧ f y ≠ f x)
  | [], _, _, _, _, _, h, _ => by simp at h
  | a :: l, 0, x, x', y, nd, h, hy => by
    simp at h
    subst h
    rcases List.mem_cons.mp hy with q | q
    · exact .inl q
    · refine .inr ⟨List.mem_cons_of_mem _ q, fun z => ?_⟩
      have nd : (f a :: l.map f).Nodup := nd
      exact (List.nodup_cons.mp nd).1 (by rw [← z]; exact List.mem_map.mpr ⟨y, q, rfl⟩)
  | a :: l, i + 1, x, x', y, nd, h, hy => by
    have nd : (f a :: l.map f).Nodup := nd
    have h : l[i]? = some x := by simpa using h
    rcases List.mem_cons.mp (show y ∈ a :: l.set i x' from hy) with q | q
    · refine .inr ⟨by rw [q]; exact List.mem_cons_self .., fun z => ?_⟩
      rw [q] at z
      exact (List.nodup_cons.mp nd).1 (by rw [z]; exact List.mem_map.mpr ⟨x, List.mem_of_getElem? h, rfl⟩)
    · rcases set_mem (l := l) (List.nodup_cons.mp nd).2 h q with w | ⟨w1, w2⟩
      · exact .inl w
      · exact .inr ⟨List.mem_cons_of_mem _ w1, w2⟩
theorem DrvAt.errAt {K : PySem.W.Frag} {H : Hp} {mm : Addr} {X : DV} (h : DrvAt K H mm X) {i : Nat} {x : EX} (hi : X.es[i]? = some x) : ErrAt K H x := h.es x (List.mem_of_getElem? hi)
theorem DrvAt.mvE {K : PySem.W.Frag} {H : Hp} {mm : Addr} {X : DV} (h : DrvAt K H mm X) {x : EX} (e : ErrAt K H x) : Mv H X.el [x.j] := fun b hb => by
  obtain ⟨rv, av, st, sx, ej, _⟩ := e.oj
  rw [List.mem_singleton.mp hb]
  exact ⟨tg_ne ej h.co.oel (by simp [tg, eFld_len]), _, ej, by simp [tg, eFld_len]⟩
theorem not1 {H : Hp} {p a : Addr} {x o : HO} (hp : H p = some x) (e : H a = some o) (t : tg o ≠ tg x) : a ∉ [p] := fun z => tg_ne e hp t (List.mem_singleton.mp z)
/-- one errand changes -/
theorem DrvAt.err {K : PySem.W.Frag} {H H' : Hp} {mm : Addr} {X : DV} (h : DrvAt K H mm X) {i : Nat} {x x' : EX} (hi : X.es[i]? = some x) (hj : x'.j = x.j) (hx : ErrAt K H' x') (ks : KS [x.j] H H') : DrvAt K H' mm { X with es := X.es.set i x' } := by
  obtain ⟨rv, av, st, sx, ej, _⟩ := (h.errAt hi).oj
  have m := h.mvE (h.errAt hi)
  have no : ∀ {a : Addr} {o : HO}, H a = some o → tg o ≠ 105 → a ∉ [x.j] := fun e t => not1 ej e (by rw [tg_ins, eFld_len]; exact t)
  obtain ⟨l1, e1, _⟩ := h.ole.e
  obtain ⟨l2, e2, _⟩ := h.ore.e
  have co := h.co.keep ks m
  have mt := h.mt.keep ks m
  have em : (X.es.set i x').map (fun x => x.j) = X.es.map (fun x => x.j) := by
    rw [map_set', hj]
    exact set_self (by rw [List.getElem?_map, hi]; rfl)
  have em2 : (X.es.set i x').map (fun x => V.ref x.j) = X.es.map (fun x => V.ref x.j) := by
    rw [map_set', hj]
    exact set_self (by rw [List.getElem?_map, hi]; rfl)
  refine ⟨ks _ _ h.oo (no h.oo (by simp [tg, rFld_len])), ⟨co.od, co.oc, co.ocd, ?_⟩, ⟨mt.oth, mt.obh⟩, fun y hy => ?_, fun y hy => ?_, ks _ _ h.oun (no h.oun (by simp [tg])), ks _ _ h.ouw (no h.ouw (by simp [tg])), ks _ _ h.ofr (no h.ofr (by simp [tg])), h.ole.ks ks m.noT (no e1 (by simp [tg])), h.ore.ks ks m.noT (no e2 (by simp [tg])), h.nl, ?_, h.ns⟩
  · show H' X.el = some (.lst ((X.es.set i x').map fun x => V.ref x.j))
    rw [em2]
    exact co.oel
  · rcases set_mem h.ne hi hy with q | ⟨q1, q2⟩
    · rw [q]
      exact hx
    · exact (h.es y q1).mv ks m (by simpa using q2)
  · obtain ⟨rv, e, _⟩ := (h.ss y hy).oj
    exact (h.ss y hy).mv ks m (no e (by simp [tg, sFld_len]))
  · show ((X.es.set i x').map fun x => x.j).Nodup
    rw [em]
    exact h.ne
theorem DrvAt.err_all {X : DV} {i : Nat} {x x' : EX} (hi : X.es[i]? = some x) (hj : x'.j = x.j) (hd : x'.d = x.d) : ∀ b ∈ DV.all { X with es := X.es.set i x' }, b ∈ X.all := fun b hb => by
  have e : (X.es.set i x').map EX.all = X.es.map EX.all := by
    rw [map_set']
    refine set_self (by rw [List.getElem?_map, hi]; show some x.all = some x'.all; unfold EX.all; rw [hj, hd])
  have e : (X.es.set i x').flatMap EX.all = X.es.flatMap EX.all := by
    rw [List.flatMap_def, List.flatMap_def, e]
  unfold DV.all at *
  have hb : b ∈ _ := hb
  rw [e] at hb
  exact hb
def spReqAt (K : PySem.W.Frag) : Sp := fun vs H Q _ => ∃ (mm : Addr) (X : DV) (i : Nat) (x : EX), vs = [.ref X.cl, .int (i : Int)] ∧ DrvAt K H mm X ∧ X.es[i]? = some x ∧ ∀ rv, Dp K H rv x.rq.d → Q rv H
def spBegin (K : PySem.W.Frag) : Sp := fun vs H Q _ => ∃ (mm : Addr) (X : DV) (i : Nat) (x : EX) (n : Int), vs = [.ref X.cl, .int (i : Int), .int n] ∧ DrvAt K H mm X ∧ X.es[i]? = some x ∧ x.fi = none ∧ ∀ H', DrvAt K H' mm { X with es := X.es.set i { x with fi := some n } } → KS [x.j] H H' → Q .non H'
def spEndS (K : PySem.W.Frag) : Sp := fun vs H Q _ => ∃ (mm : Addr) (X : DV) (i : Nat) (x : EX) (v : V), vs = [.ref X.cl, .int (i : Int), v] ∧ DrvAt K H mm X ∧ X.es[i]? = some x ∧ x.sd ≤ 900 ∧ ∀ H', DrvAt K H' mm { X with es := X.es.set i { x with sd := x.sd + 1 } } → KS [x.j] H H' → Q .non H'
def spSettle (K : PySem.W.Frag) : Sp := fun vs H Q _ => ∃ (mm : Addr) (X : DV) (i : Nat) (x : EX) (v : V) (n : Int), vs = [.ref X.cl, .int (i : Int), v, .int n] ∧ DrvAt K H mm X ∧ X.es[i]? = some x ∧ Dp K H v (ansD (some n)) ∧ ∀ H', DrvAt K H' mm { X with es := X.es.set i { x with an := some n } } → KS [x.j] H H' → Q .non H'
def spBreak (K : PySem.W.Frag) : Sp := fun vs H Q _ => ∃ (mm : Addr) (X : DV) (n : Int), vs = [.ref X.cl, .int n] ∧ DrvAt K H mm X ∧ X.es.length ≤ 60 ∧ (∀ x ∈ X.es, x.an = none) ∧ ∀ H', DrvAt K H' mm { X with es := X.es.map fun x => { x with an := some n } } → KS (X.es.map (·.j)) H H' → Q .non H'
def spDone (K : PySem.W.Frag) : Sp := fun vs H Q _ => ∃ (mm : Addr) (X : DV), vs = [.ref X.cl] ∧ DrvAt K H mm X ∧ X.es.length ≤ 60 ∧ ∀ H', Same H H' → Q (.bl (X.es.all fun x => x.an.isSome)) H'
section
variable {P : Program} {w : World} {K : PySem.W.Frag} {mg : Str → Option Value} {base : Heap}
theorem ok_reqAt (T : Top K mg) : FnC P w K mg base CX0 1 (He.ma K (He.ga K "Clients") "request_at") (spReqAt K) := by
  refine fnc0 T.d_Clients_request_at sc_Clients_request_at (fun _ _ _ _ _ _ us hl => match us, hl with | [_, _], _ => rfl) (fun vs H Q E h => ?_) (fun cdv A outer s H vs Q E hr h => ?_)
  · obtain ⟨mm, X, i, x, rfl, _⟩ := h
    rfl
  · obtain ⟨mm, X, i, x, rfl, h, hi, k⟩ := h
    obtain ⟨rv, av, st, sx, ej, h1, _⟩ := (h.errAt hi).oj
    refine ⟨_, (pss_one (ps_ret (pe_fld (pe_ix ix_list (pe_fld (pv 0) rfl) (pv 1) (fun _ _ => rfl)) rfl))), ?_⟩
    exact ⟨_, rfl, X.cl, CL K, X.cd, _, _, rfl, h.co.oc, T.cl_Clients, T.na_Clients__errands, rfl, _, rfl, X.el, _, (i : Int), .ref x.j, rfl, rfl, SqL.of h.co.oel, atI_n (by rw [List.getElem?_map, hi]; rfl), x.j, CE K, x.d, _, _, rfl, ej, T.cl_Errand, T.na_Errand_request, le_rq, k rv h1⟩
theorem ok_begin (T : Top K mg) : FnC P w K mg base CX0 1 (He.ma K (He.ga K "Clients") "begin") (spBegin K) := by
  refine fnc0 T.d_Clients_begin sc_Clients_begin (fun _ _ _ _ _ _ us hl => match us, hl with | [_, _, _], _ => rfl) (fun vs H Q E h => ?_) (fun cdv A outer s H vs Q E hr h => ?_)
  · obtain ⟨mm, X, i, x, n, rfl, _⟩ := h
    rfl
  · obtain ⟨mm, X, i, x, n, rfl, h, hi, hf, k⟩ := h
    obtain ⟨rv, av, st, sx, ej, h1, h2, h3, h4⟩ := (h.errAt hi).oj
    refine ⟨_, (pss_cons (ps_set (i := 3) sc_Clients_begin.nd rfl (Or.inl rfl) (pe_ix ix_list (pe_fld (pv 0) rfl) (pv 1) (fun _ _ => rfl)))
    (pss_one (ps_if (pt_cmp (pc_isN (pe_fld (pv 3) rfl))) (pss_one (ps_fld (pv 3) (pv 2) rfl)) pss_nil))), ?_⟩
    refine ⟨_, rfl, X.cl, CL K, X.cd, _, _, rfl, h.co.oc, T.cl_Clients, T.na_Clients__errands, rfl, _, rfl, X.el, _, (i : Int), .ref x.j, rfl, rfl, SqL.of h.co.oel, atI_n (by rw [List.getElem?_map, hi]; rfl), ?_⟩
    rw [hf] at ej
    refine ⟨_, rfl, x.j, CE K, x.d, _, _, rfl, ej, T.cl_Errand, T.na_Errand_first, le_fi, _, rfl, iteY rfl ?_⟩
    refine ⟨_, rfl, _, rfl, x.j, CE K, x.d, _, rfl, ej, T.cl_Errand, T.na_Errand_first, (by show 5 < 1000; decide), ?_⟩
    rw [pe_fi]
    have ks : KS [x.j] H (upd H x.j (.ins (CE K) x.d (eFld rv av (.int n) (optV x.an) (.ref st)))) := KS.refl.upd (by simp)
    have m := h.mvE (h.errAt hi)
    have ts := ks.ts (K := K) m.noT
    refine k _ (h.err hi rfl ⟨⟨rv, av, st, sx, upd_same, Rb.Dp.ts ts _ _ x.rq.nl h1, Rb.Dp.ts ts _ _ (ansD_nl _) h2, ts _ _ h3, h4⟩, ks _ _ (h.errAt hi).od (m.nin (h.errAt hi).od (by simp [tg]))⟩ ks) ks
theorem ok_endS (T : Top K mg) : FnC P w K mg base CX0 1 (He.ma K (He.ga K "Clients") "end_sending") (spEndS K) := by
  refine fnc0 T.d_Clients_end_sending sc_Clients_end_sending (fun _ _ _ _ _ _ us hl => match us, hl with | [_, _, _], _ => rfl) (fun vs H Q E h => ?_) (fun cdv A outer s H vs Q E hr h => ?_)
  · obtain ⟨mm, X, i, x, n, rfl, _⟩ := h
    rfl
  · obtain ⟨mm, X, i, x, v, rfl, h, hi, hl, k⟩ := h
    obtain ⟨rv, av, st, sx, ej, h1, h2, h3, h4⟩ := (h.errAt hi).oj
    refine ⟨_, (pss_cons (ps_set (i := 3) sc_Clients_end_sending.nd rfl (Or.inl rfl) (pe_ix ix_list (pe_fld (pv 0) rfl) (pv 1) (fun _ _ => rfl)))
    (pss_one (ps_fld (pv 3) (pe_tup (StX.pa_star (pe_fld (pv 3) rfl) (pa_cons (pv 2) pa_nil))) rfl))), ?_⟩
    refine ⟨_, rfl, X.cl, CL K, X.cd, _, _, rfl, h.co.oc, T.cl_Clients, T.na_Clients__errands, rfl, _, rfl, X.el, _, (i : Int), .ref x.j, rfl, rfl, SqL.of h.co.oel, atI_n (by rw [List.getElem?_map, hi]; rfl), ?_⟩
    refine ⟨_, rfl, x.j, CE K, x.d, _, _, rfl, ej, T.cl_Errand, T.na_Errand_sendings, le_sd, st, sx, rfl, .inl h3, _, rfl, ?_⟩
    refine ⟨(by show (sx ++ [v]).length ≤ _; rw [List.length_append, h4, sizeLine_eq]; show x.sd + 1 ≤ _; omega), fun p fp => ?_⟩
    have s1 := Same.new (o := HO.tup (sx ++ [v])) (Same.refl _) fp
    refine ⟨_, rfl, x.j, CE K, x.d, _, rfl, s1 _ _ ej, T.cl_Errand, T.na_Errand_sendings, (by show 5 < 1000; decide), ?_⟩
    rw [pe_sd]
    have ks : KS [x.j] H _ := (KS.of (S := [x.j]) s1).upd (p := x.j) (o := .ins (CE K) x.d (eFld rv av (optV x.fi) (optV x.an) (.ref p))) (by simp)
    have m := h.mvE (h.errAt hi)
    have ts := ks.ts (K := K) m.noT
    refine k _ (h.err hi rfl ⟨⟨rv, av, p, sx ++ [v], upd_same, Rb.Dp.ts ts _ _ x.rq.nl h1, Rb.Dp.ts ts _ _ (ansD_nl _) h2, SqT.of ?_, by rw [List.length_append, h4]; rfl⟩, ks _ _ (h.errAt hi).od (m.nin (h.errAt hi).od (by simp [tg]))⟩ ks) ks
    exact (upd_ne (ne_of_none ej fp).symm).trans upd_same
theorem ok_settle (T : Top K mg) : FnC P w K mg base CX0 1 (He.ma K (He.ga K "Clients") "settle") (spSettle K) := by
  refine fnc0 T.d_Clients_settle sc_Clients_settle (fun _ _ _ _ _ _ us hl => match us, hl with | [_, _, _, _], _ => rfl) (fun vs H Q E h => ?_) (fun cdv A outer s H vs Q E hr h => ?_)
  · obtain ⟨mm, X, i, x, v, n, rfl, _⟩ := h
    rfl
  · obtain ⟨mm, X, i, x, v, n, rfl, h, hi, hv, k⟩ := h
    obtain ⟨rv, av, st, sx, ej, h1, h2, h3, h4⟩ := (h.errAt hi).oj
    refine ⟨_, (pss_cons (ps_set (i := 4) sc_Clients_settle.nd rfl (Or.inl rfl) (pe_ix ix_list (pe_fld (pv 0) rfl) (pv 1) (fun _ _ => rfl)))
    (pss_cons (ps_fld (pv 4) (pv 2) rfl)
    (pss_one (ps_fld (pv 4) (pv 3) rfl)))), ?_⟩
    refine ⟨_, rfl, X.cl, CL K, X.cd, _, _, rfl, h.co.oc, T.cl_Clients, T.na_Clients__errands, rfl, _, rfl, X.el, _, (i : Int), .ref x.j, rfl, rfl, SqL.of h.co.oel, atI_n (by rw [List.getElem?_map, hi]; rfl), ?_⟩
    refine ⟨_, rfl, _, rfl, x.j, CE K, x.d, _, rfl, ej, T.cl_Errand, T.na_Errand_answer, (by show 5 < 1000; decide), ?_⟩
    rw [pe_an]
    refine ⟨_, rfl, _, rfl, x.j, CE K, x.d, _, rfl, upd_same, T.cl_Errand, T.na_Errand_last, (by show 5 < 1000; decide), ?_⟩
    rw [pe_la]
    have ks : KS [x.j] H _ := ((KS.refl (S := [x.j]) (H := H)).upd (p := x.j) (o := .ins (CE K) x.d (eFld rv v (optV x.fi) (optV x.an) (.ref st))) (by simp)).upd (p := x.j) (o := .ins (CE K) x.d (eFld rv v (optV x.fi) (.int n) (.ref st))) (by simp)
    have m := h.mvE (h.errAt hi)
    have ts := ks.ts (K := K) m.noT
    refine k _ (h.err hi rfl ⟨⟨rv, v, st, sx, upd_same, Rb.Dp.ts ts _ _ x.rq.nl h1, Rb.Dp.ts ts _ _ (ansD_nl (some n)) hv, ts _ _ h3, h4⟩, ks _ _ (h.errAt hi).od (m.nin (h.errAt hi).od (by simp [tg]))⟩ ks) ks
theorem ok_break (T : Top K mg) : FnC P w K mg base CX0 2 (He.ma K (He.ga K "Clients") "break_off") (spBreak K) := by
  have G_Clients_settle := ok_settle (P := P) (w := w) (base := base) T
  refine fnc0 T.d_Clients_break_off sc_Clients_break_off (fun _ _ _ _ _ _ us hl => match us, hl with | [_, _], _ => rfl) (fun vs H Q E h => ?_) (fun cdv A outer s H vs Q E hr h => ?_)
  · obtain ⟨mm, X, n, rfl, _⟩ := h
    rfl
  · obtain ⟨mm, X, n, rfl, h, hl, ha, k⟩ := h
    refine ⟨_, (pss_one (ps_for PassesOwn.never rfl (pi_enum (by rfl) T.b_enumerate (pa_cons (pe_fld (pv 0) rfl) pa_nil)) (pg_tup rfl (pgs_cons (pg_name (i := 2) sc_Clients_break_off.nd rfl (Or.inl rfl)) (pgs_cons (pg_name (i := 3) sc_Clients_break_off.nd rfl (Or.inl rfl)) pgs_nil))) (pss_one (ps_if (pt_cmp (pc_isN (pe_fld (pv 3) rfl))) (pss_one (ps_expr (pe_m G_Clients_settle hr (by decide) T.cl_Clients T.me_Clients_settle pass0 (pv 0) (pa_cons (pv 2) (pa_cons (pe_tup (pa_cons pe_str (pa_cons pe_non pa_nil))) (pa_cons (pv 1) pa_nil)))))) pss_nil)))), ?_⟩
    refine ⟨_, rfl, X.cl, CL K, X.cd, _, _, rfl, h.co.oc, T.cl_Clients, T.na_Clients__errands, rfl, X.el, _, rfl, SqL.of h.co.oel, ?_⟩
    let f : EX → EX := fun x => { x with an := some n }
    let es : Nat → List EX := fun i => (X.es.take i).map f ++ X.es.drop i
    have ej : ∀ i, (es i).map (fun x => V.ref x.j) = X.es.map fun x => V.ref x.j := fun i => by
      show ((X.es.take i).map f ++ X.es.drop i).map (fun x => V.ref x.j) = _
      rw [List.map_append, List.map_map, show ((fun x => V.ref x.j) ∘ f) = (fun x : EX => V.ref x.j) from rfl, ← List.map_append, List.take_append_drop]
    have e0 : es 0 = X.es := rfl
    have eat : ∀ i y, X.es[i]? = some y → (es i)[i]? = some y ∧ (es i).set i (f y) = es (i + 1) := fun i y hy => by
      have hl : i < X.es.length := (List.getElem?_eq_some_iff.mp hy).1
      have l1 : ((X.es.take i).map f).length = i := by
        rw [List.length_map, List.length_take]
        omega
      have ed : X.es.drop i = y :: X.es.drop (i + 1) := by
        rw [List.drop_eq_getElem_cons hl]
        rw [List.getElem?_eq_getElem hl] at hy
        rw [Option.some.inj hy]
      constructor
      · show ((X.es.take i).map f ++ X.es.drop i)[i]? = _
        rw [List.getElem?_append_right (by omega), l1, ed, Nat.sub_self]
        rfl
      · show ((X.es.take i).map f ++ X.es.drop i).set i (f y) = (X.es.take (i + 1)).map f ++ X.es.drop (i + 1)
        rw [List.set_append_right _ _ (by omega), l1, ed, Nat.sub_self, List.take_add_one, hy, List.map_append, List.append_assoc]
        rfl
    refine for_enumL (K := K) (a := X.el) (xs := X.es.map fun x => V.ref x.j) (fun i σ H' => (∃ a b, σ = [some (.ref X.cl), some (.int n), a, b]) ∧ DrvAt K H' mm { X with es := es i } ∧ KS (X.es.map (·.j)) H H') ⟨⟨_, _, rfl⟩, h, KS.refl⟩ ?_ ?_ ?_
    · rintro i σ H' ⟨_, hD, _⟩
      have := hD.co.oel
      exact SqL.of (by rw [← ej i]; exact this)
    · rintro i x Tu σ H' hi ⟨⟨a, b, rfl⟩, hD, ks⟩ hT
      obtain ⟨y, hy, rfl⟩ : ∃ y, X.es[i]? = some y ∧ x = V.ref y.j := by
        rw [List.getElem?_map] at hi
        cases e : X.es[i]? with
        | none =>
          rw [e] at hi
          cases hi
        | some j =>
          rw [e] at hi
          exact ⟨j, rfl, (Option.some.inj hi).symm⟩
      obtain ⟨c1, c2⟩ := eat i y hy
      have s1 := Same.new (o := HO.tup [V.int (i : Int), V.ref y.j]) (Same.refl _) hT
      have hD1 := hD.same s1
      obtain ⟨rv, av, st, sx, eyj, h1, h2, h3, h4⟩ := (hD1.errAt c1).oj
      rw [ha y (List.mem_of_getElem? hy)] at h2
      have := dp_non h2
      subst this
      refine ⟨Tu, _, rfl, SqT.of upd_same, rfl, _, _, rfl, _, _, rfl, rfl, ?_⟩
      refine ⟨_, rfl, y.j, CE K, y.d, _, _, rfl, eyj, T.cl_Errand, T.na_Errand_answer, le_an, _, rfl, iteY rfl ?_⟩
      refine ⟨_, rfl, X.cl, X.cd, _, rfl, hD1.co.oc, zn (by decide +kernel), _, rfl, ?_⟩
      refine ⟨(by show 2 ≤ sizeLine; decide), fun p fp => ?_⟩
      have s2 := Same.new (o := HO.tup [V.str "broken", V.non]) (Same.refl _) fp
      refine ⟨_, rfl, mm, { X with es := es i }, i, y, _, n, rfl, hD1.same s2, c1, .tup (SqT.of upd_same) (.cons (.str _) (.cons .non .nil)), fun H3 hD3 ks3 => ?_⟩
      refine ⟨⟨_, _, rfl⟩, ?_, (ks.trans (KS.of (s1.trans s2))).trans (ks3.mono fun b hb => ?_)⟩
      · rw [← c2]
        exact hD3
      · rw [List.mem_singleton.mp hb]
        exact List.mem_map.mpr ⟨y, List.mem_of_getElem? hy, rfl⟩
    · rintro σ H' ⟨_, hD, ks⟩
      rw [List.length_map] at hD
      have e : es X.es.length = X.es.map f := by
        show (X.es.take X.es.length).map f ++ X.es.drop X.es.length = _
        rw [List.take_length, List.drop_length, List.append_nil]
      rw [e] at hD
      exact k H' hD ks
theorem ok_done (T : Top K mg) : FnC P w K mg base CX0 1 (He.ma K (He.ga K "Clients") "is_done") (spDone K) := by
  refine fnc0 T.d_Clients_is_done sc_Clients_is_done (fun _ _ _ _ _ _ us hl => match us, hl with | [_], _ => rfl) (fun vs H Q E h => ?_) (fun cdv A outer s H vs Q E hr h => ?_)
  · obtain ⟨mm, X, rfl, _⟩ := h
    rfl
  · obtain ⟨mm, X, rfl, h, hl, k⟩ := h
    refine ⟨_, (pss_one (ps_ret (pe_callB (cr_all rfl) (by rfl) T.b_all (by decide +kernel) (pa_cons (pe_lc (own := [("errand", 1)]) (g := gName 1) (tt := tYes) rfl sc_Clients_is_done.nd (pi_list (pe_fld (pv 0) rfl)) (blkOk_by (N := ["self", "errand"]) (sc := defScope s_Clients_is_done) (by decide +kernel)) (fun _ _ _ _ _ => (pg_name (i := 1) sc_Clients_is_done.nd rfl (Or.inl rfl))) (fun _ _ _ _ _ => pts_nil) (fun _ _ _ _ _ => (pe_cmp (pc_notN (pe_fldK (K := K) rfl (pv 1) rfl))))) pa_nil)))), ?_⟩
    refine ⟨_, rfl, X.cl, CL K, X.cd, _, _, rfl, h.co.oc, T.cl_Clients, T.na_Clients__errands, rfl, X.el, rfl, ⟨_, SqL.of h.co.oel⟩, fun D hD => ?_⟩
    refine lc_list (K := K) (a := X.el) (xs := X.es.map fun x => V.ref x.j) (fun i H2 => H2 D = some (.lst (((X.es.take i).map fun x => x.an.isSome).map V.bl)) ∧ Same H H2) ⟨upd_same, Same.new (Same.refl _) hD⟩ (fun i H2 _ a => SqL.of (a.2 _ _ h.co.oel)) ?_ ?_
    · rintro i x H2 hi ⟨eD, s2⟩
      obtain ⟨y, hy, rfl⟩ : ∃ y, X.es[i]? = some y ∧ x = V.ref y.j := by
        rw [List.getElem?_map] at hi
        cases e : X.es[i]? with
        | none =>
          rw [e] at hi
          cases hi
        | some j =>
          rw [e] at hi
          exact ⟨j, rfl, (Option.some.inj hi).symm⟩
      obtain ⟨rv, av, st, sx, ej, h1, h2, h3, h4⟩ := (h.errAt hy).oj
      refine ⟨rfl, ?_⟩
      refine ⟨_, rfl, y.j, CE K, y.d, _, _, rfl, s2 _ _ ej, T.cl_Errand, T.na_Errand_answer, le_an, _, eD, ?_, ?_, Same.put s2 hD⟩
      · rw [List.length_map, List.length_map, List.length_take, sizeLine_eq]
        omega
      · have ea : (!decide (av = V.non)) = y.an.isSome := by
          cases e : y.an with
          | none =>
            rw [e] at h2
            rw [dp_non h2]
            rfl
          | some c =>
            rw [e] at h2
            obtain ⟨t, xs, rfl, _⟩ := dp_tup h2
            rfl
        rw [upd_same, ea, List.take_add_one, hy, List.map_append, List.map_append]
        rfl
    · rintro H2 ⟨eD, s2⟩
      refine ⟨D, _, rfl, SqL.of eD, ?_⟩
      have e : (((X.es.take (X.es.map fun x => V.ref x.j).length).map fun x => x.an.isSome).any fun x => !x) = ((X.es.any fun x => !x.an.isSome)) := by
        rw [List.length_map, List.take_length, List.any_map]
        rfl
      have e : ((((X.es.take (X.es.map fun x => V.ref x.j).length).map fun x => x.an.isSome)).all id) = X.es.all fun x => x.an.isSome := by
        rw [List.length_map, List.take_length, List.all_map]
        rfl
      rw [e]
      exact k H2 s2
end
end Rb
namespace Rb
open PySem PySem.Spec PyProof.Rows L2
/-! ### what is under way -/
def DV.ws (X : DV) : List SX := X.ss.take X.n
structure DV.Wk (X : DV) : Prop where
  k : X.ws.map (·.k) = List.range X.ws.length
  n : X.ws.length ≤ 3
theorem uwK_keys (ws : List SX) : (uwK ws).map (·.1) = (ws.map fun x => (x.k : Int)).map Sum.inl := by
  unfold uwK
  rw [List.map_map, List.map_map]
  rfl
theorem uwK_len (ws : List SX) : (uwK ws).length = ws.length := List.length_map ..
theorem uw_val : ∀ {ws : List SX} {x : SX}, (ws.map (·.k)).Nodup → x ∈ ws → valV (uwK ws) (Sum.inl (x.k : Int)) = some (.ref x.j)
  | [], _, _, h => nomatch h
  | y :: ws, x, nd, h => by
    have nd : (y.k :: ws.map (·.k)).Nodup := nd
    rcases List.mem_cons.mp h with q | q
    · subst q
      exact valV_pos rfl
    · have ne : ¬ (Sum.inl (y.k : Int) : Key) = Sum.inl (x.k : Int) := fun z => by
        have z : (y.k : Int) = (x.k : Int) := Sum.inl.inj z
        have z : y.k = x.k := by omega
        exact (List.nodup_cons.mp nd).1 (by rw [z]; exact List.mem_map.mpr ⟨x, q, rfl⟩)
      show valV ((Sum.inl (y.k : Int), V.ref y.j) :: uwK ws) _ = _
      rw [valV_neg ne]
      exact uw_val (List.nodup_cons.mp nd).2 q
theorem range_sorted (n : Nat) : ((List.range n).map fun i : Nat => (i : Int)).Pairwise (· ≤ ·) := by
  rw [List.pairwise_map]
  exact List.pairwise_le_range.imp fun h => by omega
theorem DV.Wk.ints {X : DV} (h : X.Wk) : (X.ws.map fun x => (x.k : Int)) = (List.range X.ws.length).map fun i : Nat => (i : Int) := by
  rw [← h.k, List.map_map]
  rfl
theorem DV.Wk.nd {X : DV} (h : X.Wk) : (X.ws.map (·.k)).Nodup := by
  rw [h.k]
  exact List.nodup_range
theorem DrvAt.snd {K : PySem.W.Frag} {H : Hp} {mm : Addr} {X : DV} (h : DrvAt K H mm X) {x : SX} (hx : x ∈ X.ws) : SndAt K H x := h.ss x (List.mem_of_mem_take hx)
def spSnds (K : PySem.W.Frag) : Sp := fun vs H Q _ => ∃ (mm : Addr) (X : DV), vs = [.ref X.o] ∧ DrvAt K H mm X ∧ X.Wk ∧ ∀ (p : Addr) H', H p = none → Same H H' → H' p = some (.lst (X.ws.map fun x => .ref x.j)) → Q (.ref p) H'
def spIsRd (K : PySem.W.Frag) : Sp := fun vs H Q _ => ∃ (x : SX), vs = [.ref x.j] ∧ SndAt K H x ∧ Q (.bl (!x.rq.wr)) H
def mustB (X : DV) : Bool := X.wr || X.ws.any fun x => decide (X.md - x.ru > 200)
def spMust (K : PySem.W.Frag) : Sp := fun vs H Q _ => ∃ (mm : Addr) (X : DV), vs = [.ref X.o] ∧ DrvAt K H mm X ∧ X.Wk ∧ ∀ H', Same H H' → Q (.bl (mustB X)) H'
def mayB (X : DV) : Bool := match X.unsent with
  | [] => false
  | i :: _ => if X.ws.length ≥ 3 then false else match X.es[i.toNat]? with
    | none => false
    | some x => if x.rq.wr = true then !(X.ws.filter fun s => s.rq.wr).any fun s => decide (s.rq.blk = x.rq.blk) else true
def spMay (K : PySem.W.Frag) : Sp := fun vs H Q _ => ∃ (mm : Addr) (X : DV), vs = [.ref X.o] ∧ DrvAt K H mm X ∧ X.Wk ∧ (∀ i l, X.unsent = i :: l → ∃ (j : Nat) (x : EX), i = (j : Int) ∧ X.es[j]? = some x) ∧ ∀ H', Same H H' → Q (.bl (mayB X)) H'
theorem rq_two {K : PySem.W.Frag} {H : Hp} {v : V} {r : RQ} (h : Dp K H v r.d) : ∃ t rest, v = .ref t ∧ SqT K H t (.str (kindS r.wr) :: .int (r.blk : Int) :: rest) ∧ DpAll K H rest (if r.wr then [.tuple (r.con.map .int)] else []) := by
  obtain ⟨t, xs, rfl, ht, hx⟩ := dp_tup h
  unfold RQ.parts at hx
  cases hw : r.wr with
  | true =>
    rw [hw] at hx
    cases hx with
    | cons h1 hx =>
      cases h1
      cases hx with
      | cons h2 hx =>
        cases h2
        exact ⟨t, _, rfl, ht, hx⟩
  | false =>
    rw [hw] at hx
    cases hx with
    | cons h1 hx =>
      cases h1
      cases hx with
      | cons h2 hx =>
        cases h2
        exact ⟨t, _, rfl, ht, hx⟩
theorem ref_at {α : Type} {f : α → V} {l : List α} {i : Nat} {x : V} (hi : (l.map f)[i]? = some x) : ∃ y, l[i]? = some y ∧ x = f y := by
  rw [List.getElem?_map] at hi
  cases e : l[i]? with
  | none =>
    rw [e] at hi
    cases hi
  | some j =>
    rw [e] at hi
    exact ⟨j, rfl, (Option.some.inj hi).symm⟩
section
variable {P : Program} {w : World} {K : PySem.W.Frag} {mg : Str → Option Value} {base : Heap}
theorem ok_snds (T : Top K mg) : FnC P w K mg base CX0 1 (He.ma K (He.ga K "Driver") "_sendings") (spSnds K) := by
  refine fnc0 T.d_Driver__sendings sc_Driver__sendings (fun _ _ _ _ _ _ us hl => match us, hl with | [_], _ => rfl) (fun vs H Q E h => ?_) (fun cdv A outer s H vs Q E hr h => ?_)
  · obtain ⟨mm, X, rfl, _⟩ := h
    rfl
  · obtain ⟨mm, X, rfl, h, hk, k⟩ := h
    have hu := hu_of hr
    refine ⟨_, (pss_one (ps_ret (pe_lc (own := [("tag", 1)]) (g := gName 1) (tt := tYes) rfl sc_Driver__sendings.nd (pi_list (pe_callB (call_sortedDI rfl) (by rfl) T.b_sorted (by decide +kernel) (pa_cons (pe_fld (pv 0) rfl) pa_nil))) (blkOk_by (N := ["self", "tag"]) (sc := defScope s_Driver__sendings) (by decide +kernel)) (fun _ _ _ _ _ => (pg_name (i := 1) sc_Driver__sendings.nd rfl (Or.inl rfl))) (fun _ _ _ _ _ => pts_nil) (fun _ _ _ _ _ => (pe_dget hu (pe_fldK (K := K) rfl (pv 0) rfl) (pv 1) (fun _ _ => rfl)))))), ?_⟩
    refine ⟨_, rfl, X.o, CR K, X.d, _, _, rfl, h.oo, T.cl_Driver, T.na_Driver__under_way, lr_uw, X.uw, uwK X.ws, X.ws.map fun x => (x.k : Int), rfl, .inl h.ouw, uwK_keys _, (by rw [List.length_map]; have := hk.n; omega), fun ys p hp hs fp => ?_⟩
    have ey : ys = X.ws.map fun x => (x.k : Int) := List.Perm.eq_of_pairwise (le := (· ≤ ·)) (fun a b _ _ h1 h2 => Int.le_antisymm h1 h2) hs (by rw [hk.ints]; exact range_sorted _) hp
    subst ey
    have s1 := Same.new (o := HO.lst ((X.ws.map fun x => (x.k : Int)).map V.int)) (Same.refl _) fp
    refine ⟨p, rfl, ⟨_, SqL.of upd_same⟩, fun D hD => ?_⟩
    have fD := s1.free hD
    refine lc_list (K := K) (a := p) (xs := (X.ws.map fun x => (x.k : Int)).map V.int) (fun i H2 => H2 D = some (.lst ((X.ws.take i).map fun x => V.ref x.j)) ∧ Same _ H2) ⟨upd_same, Same.new (Same.refl _) hD⟩ (fun i H2 _ a => SqL.of (a.2 _ _ upd_same)) ?_ ?_
    · rintro i x H2 hi ⟨eD, s2⟩
      rw [List.map_map] at hi
      obtain ⟨y, hy, rfl⟩ := ref_at hi
      refine ⟨rfl, ?_⟩
      refine ⟨_, rfl, X.o, CR K, X.d, _, _, rfl, s2 _ _ (s1 _ _ h.oo), T.cl_Driver, T.na_Driver__under_way, lr_uw, _, rfl, X.uw, .ref y.j, rfl, ?_, _, eD, ?_, ?_, Same.put s2 hD⟩
      · rw [← uw_val hk.nd (List.mem_of_getElem? hy)]
        exact DGet.k (k := (Sum.inl (y.k : Int) : Key)) (s2 _ _ (s1 _ _ h.ouw))
      · rw [List.length_map, List.length_take, sizeLine_eq]
        have := hk.n
        omega
      · rw [upd_same, List.take_add_one, hy, List.map_append]
        rfl
    · rintro H2 ⟨eD, s2⟩
      rw [List.length_map, List.length_map, List.take_length] at eD
      exact k D H2 fD (s1.trans s2) eD
theorem ok_isrd (T : Top K mg) : FnC P w K mg base CX0 1 (He.ma K (He.ga K "Sending") "is_read") (spIsRd K) := by
  refine fnc0 T.d_Sending_is_read sc_Sending_is_read (fun _ _ _ _ _ _ us hl => match us, hl with | [_], _ => rfl) (fun vs H Q E h => ?_) (fun cdv A outer s H vs Q E hr h => ?_)
  · obtain ⟨x, rfl, _⟩ := h
    rfl
  · obtain ⟨x, rfl, h, k⟩ := h
    obtain ⟨rv, ej, h1⟩ := h.oj
    obtain ⟨t, rest, rfl, ht, _⟩ := rq_two h1
    refine ⟨_, (pss_one (ps_ret (pe_cmpR op_eq (pe_ix ix_tup (pe_fld (pv 0) rfl) pe_int (fun _ _ => rfl)) pe_str (nomark _)))), ?_⟩
    refine ⟨_, rfl, x.j, CS K, x.d, _, _, rfl, ej, T.cl_Sending, T.na_Sending_request, ls_rq, t, _, ((0 : Nat) : Int), .str (kindS x.rq.wr), rfl, rfl, ht, atI_n (j := 0) rfl, rfl, ?_⟩
    have e : decide (V.str (kindS x.rq.wr) = V.str "read") = !x.rq.wr := by cases x.rq.wr <;> decide +kernel
    rw [← e] at k
    exact k
theorem ok_must (T : Top K mg) : FnC P w K mg base CX0 2 (He.ma K (He.ga K "Driver") "_must_reset") (spMust K) := by
  have G_Driver__sendings := ok_snds (P := P) (w := w) (base := base) T
  refine fnc0 T.d_Driver__must_reset sc_Driver__must_reset (fun _ _ _ _ _ _ us hl => match us, hl with | [_], _ => rfl) (fun vs H Q E h => ?_) (fun cdv A outer s H vs Q E hr h => ?_)
  · obtain ⟨mm, X, rfl, _⟩ := h
    rfl
  · obtain ⟨mm, X, rfl, h, hk, k⟩ := h
    refine ⟨_, (pss_one (ps_ret (pe_or (pe_fld (pv 0) rfl) (pe_one (pe_callB (cr_any rfl) (by rfl) T.b_any (by decide +kernel) (pa_cons (pe_lc (own := [("sending", 1)]) (g := gName 1) (tt := tYes) rfl sc_Driver__must_reset.nd (pi_list (pe_m0 G_Driver__sendings hr (by decide) T.cl_Driver T.me_Driver__sendings pass0 (pv 0))) (blkOk_by (N := ["self", "sending"]) (sc := defScope s_Driver__must_reset) (by decide +kernel)) (fun _ _ _ _ _ => (pg_name (i := 1) sc_Driver__must_reset.nd rfl (Or.inl rfl))) (fun _ _ _ _ _ => pts_nil) (fun _ _ _ _ _ => (pe_cmpR op_gt (pe_op op_sub (pe_fldK (K := K) rfl (pv 0) rfl) (pe_fldK (K := K) rfl (pv 1) rfl)) (pe_gc (by rfl) T.c_MOST_ACCESSES) (nomark _)))) pa_nil)))))), ?_⟩
    refine ⟨_, rfl, X.o, CR K, X.d, _, _, rfl, h.oo, T.cl_Driver, T.na_Driver__is_wrong, lr_wr, ?_⟩
    refine ⟨_, rfl, ite2 (fun c => ?_) (fun c => ?_)⟩
    · have := k H (Same.refl _)
      unfold mustB at this
      rw [show X.wr = true from c] at this
      exact this
    refine ⟨_, rfl, X.o, X.d, _, rfl, h.oo, zn (by decide +kernel), mm, X, rfl, h, hk, fun p H1 fp s1 ep => ⟨p, rfl, ⟨_, SqL.of ep⟩, fun D hD => ?_⟩⟩
    refine lc_list (K := K) (a := p) (xs := X.ws.map fun x => V.ref x.j) (fun i H2 => H2 D = some (.lst (((X.ws.take i).map fun x => decide (X.md - x.ru > 200)).map V.bl)) ∧ Same H1 H2) ⟨upd_same, Same.new (Same.refl _) hD⟩ (fun i H2 _ a => SqL.of (a.2 _ _ ep)) ?_ ?_
    · rintro i x H2 hi ⟨eD, s2⟩
      obtain ⟨y, hy, rfl⟩ := ref_at hi
      obtain ⟨rv, ej, _⟩ := (h.snd (List.mem_of_getElem? hy)).oj
      have s12 := s1.trans s2
      refine ⟨rfl, ?_⟩
      refine ⟨_, rfl, X.o, CR K, X.d, _, _, rfl, s12 _ _ h.oo, T.cl_Driver, T.na_Driver__made, lr_md, _, rfl, y.j, CS K, y.d, _, _, rfl, s12 _ _ ej, T.cl_Sending, T.na_Sending_rung, ls_ru, _, _, rfl, rfl, _, _, rfl, rfl, _, eD, ?_, ?_, Same.put s2 hD⟩
      · rw [List.length_map, List.length_map, List.length_take, sizeLine_eq]
        have := hk.n
        omega
      · rw [upd_same, List.take_add_one, hy, List.map_append, List.map_append]
        rfl
    · rintro H2 ⟨eD, s2⟩
      refine ⟨D, _, rfl, SqL.of eD, ?_⟩
      have := k H2 (s1.trans s2)
      unfold mustB at this
      have c : ¬ X.wr = true := c
      have c : X.wr = false := by simpa using c
      rw [c, Bool.false_or] at this
      rw [List.length_map, List.take_length, List.any_map]
      exact this
theorem ok_may (T : Top K mg) : FnC P w K mg base CX0 2 (He.ma K (He.ga K "Driver") "_may_send") (spMay K) := by
  have G_Driver__sendings := ok_snds (P := P) (w := w) (base := base) T
  have G_Clients_request_at := ok_reqAt (P := P) (w := w) (base := base) T
  have G_Sending_is_read := ok_isrd (P := P) (w := w) (base := base) T
  refine fnc0 T.d_Driver__may_send sc_Driver__may_send (fun _ _ _ _ _ _ us hl => match us, hl with | [_], _ => rfl) (fun vs H Q E h => ?_) (fun cdv A outer s H vs Q E hr h => ?_)
  · obtain ⟨mm, X, rfl, _⟩ := h
    rfl
  · obtain ⟨mm, X, rfl, h, hk, hu2, k⟩ := h
    refine ⟨_, (pss_cons (ps_if (PW.pt (pw_or (pt_not (pt_truth (pe_fld (pv 0) rfl) (fun _ => rfl))) (pw_or1 (pt_cmpR op_ge (pe_callB call_lenD (by rfl) T.b_len PySem.boot_len (pa_cons (pe_fld (pv 0) rfl) pa_nil)) (pe_gc (by rfl) T.c_MOST_UNDER_WAY) (nomark _))))) (pss_one (ps_ret pe_bl)) pss_nil)
    (pss_cons (ps_set (i := 1) sc_Driver__may_send.nd rfl (Or.inl rfl) (pe_m G_Clients_request_at hr (by decide) T.cl_Clients T.me_Clients_request_at pass0 (pe_fld (pv 0) rfl) (pa_cons (pe_ix ix_list (pe_fld (pv 0) rfl) pe_int (fun _ _ => rfl)) pa_nil)))
    (pss_cons (ps_if (pt_cmpR op_eq (pe_ix ix_tup (pv 1) pe_int (fun _ _ => rfl)) pe_str (nomark _)) (pss_one (ps_ret pe_bl)) pss_nil)
    (pss_cons (ps_setLc (i := 2) (own := [("sending", 3)]) (g := gName 3) rfl sc_Driver__may_send.nd rfl rfl (sw_true rfl rfl rfl (by decide +kernel)) (pi_list (pe_m0 G_Driver__sendings hr (by decide) T.cl_Driver T.me_Driver__sendings pass0 (pv 0))) (blkOk_by (N := ["self", "request", "others", "sending", "other"]) (sc := defScope s_Driver__may_send) (by decide +kernel)) (fun _ _ _ _ _ => (pg_name (i := 3) sc_Driver__may_send.nd rfl (Or.inl rfl))) (fun _ _ _ _ _ => pts_one (pt_not (pt_val (pe_m0 G_Sending_is_read hr (by decide) T.cl_Sending T.me_Sending_is_read pass0 (pv 3))))) (fun _ _ _ _ _ => (pe_fldK (K := K) rfl (pv 3) rfl)))
    (pss_one (ps_ret (pe_cmpR op_notIn_seq (pe_ix ix_tup (pv 1) pe_int (fun _ _ => rfl)) (pe_lc (own := [("other", 4)]) (g := gName 4) (tt := tYes) rfl sc_Driver__may_send.nd (pi_list (pv 2)) (blkOk_by (N := ["self", "request", "others", "sending", "other"]) (sc := defScope s_Driver__may_send) (by decide +kernel)) (fun _ _ _ _ _ => (pg_name (i := 4) sc_Driver__may_send.nd rfl (Or.inl rfl))) (fun _ _ _ _ _ => pts_nil) (fun _ _ _ _ _ => (pe_ix (r := rIxT K) ix_tup (pv 4) pe_int (fun _ _ => rfl)))) rfl))))))), ?_⟩
    refine ⟨_, rfl, X.o, CR K, X.d, _, _, rfl, h.oo, T.cl_Driver, T.na_Driver__unsent, lr_un, _, .inl ⟨_, SqL.of h.oun, rfl⟩, ?_⟩
    have kk := k
    unfold mayB at kk
    cases hun : X.unsent with
    | nil =>
      rw [hun] at kk
      exact iteY rfl (iteY rfl (kk H (Same.refl _)))
    | cons i l =>
      obtain ⟨j, x, rfl, hx⟩ := hu2 i l hun
      rw [hun] at kk
      refine iteN (by simp) ?_
      refine ⟨_, rfl, X.o, CR K, X.d, _, _, rfl, h.oo, T.cl_Driver, T.na_Driver__under_way, lr_uw, X.uw, uwK X.ws, rfl, h.ouw, _, _, rfl, rfl, _, rfl, ?_⟩
      have el : decide ((3 : Int) ≤ ((uwK X.ws).length : Int)) = decide (X.ws.length ≥ 3) := by
        rw [uwK_len]
        by_cases c : X.ws.length ≥ 3
        · rw [decide_eq_true c, decide_eq_true (by omega)]
        · rw [decide_eq_false c, decide_eq_false (by omega)]
      have kk : ∀ H', Same H H' → Q (.bl (if X.ws.length ≥ 3 then false else match X.es[(j : Int).toNat]? with | none => false | some x => if x.rq.wr = true then !(X.ws.filter fun s => s.rq.wr).any fun s => decide (s.rq.blk = x.rq.blk) else true)) H' := kk
      refine ite2 (fun c => ?_) (fun c => ?_)
      · have c : decide ((3 : Int) ≤ ((uwK X.ws).length : Int)) = true := c
        rw [el] at c
        rw [if_pos (of_decide_eq_true c)] at kk
        exact kk H (Same.refl _)
      have c : ¬ decide ((3 : Int) ≤ ((uwK X.ws).length : Int)) = true := c
      rw [el] at c
      rw [if_neg (fun z => c (decide_eq_true z)), Int.toNat_natCast, hx] at kk
      have kk : ∀ H', Same H H' → Q (.bl (if x.rq.wr = true then !(X.ws.filter fun s => s.rq.wr).any fun s => decide (s.rq.blk = x.rq.blk) else true)) H' := kk
      refine ⟨_, rfl, X.o, CR K, X.d, _, _, rfl, h.oo, T.cl_Driver, T.na_Driver__clients, lr_cl, X.cl, X.cd, _, rfl, h.co.oc, zn (by decide +kernel), _, rfl, X.o, CR K, X.d, _, _, rfl, h.oo, T.cl_Driver, T.na_Driver__unsent, lr_un, X.un, _, ((0 : Nat) : Int), .int (j : Int), rfl, rfl, SqL.of h.oun, atI_n (j := 0) (by rw [hun]; rfl), mm, X, j, x, rfl, h, hx, fun rv hrv => ?_⟩
      obtain ⟨t, rest, rfl, ht, _⟩ := rq_two hrv
      refine ⟨_, rfl, t, _, ((0 : Nat) : Int), .str (kindS x.rq.wr), rfl, rfl, ht, atI_n (j := 0) rfl, rfl, _, rfl, ?_⟩
      cases hw : x.rq.wr with
      | false =>
        rw [hw, if_neg (by decide)] at kk
        exact iteY (by decide +kernel) (kk H (Same.refl _))
      | true =>
        rw [hw, if_pos rfl] at kk
        refine iteN (by decide +kernel) ?_
        refine ⟨_, rfl, X.o, X.d, _, rfl, h.oo, zn (by decide +kernel), mm, X, rfl, h, hk, fun p H1 fp s1 ep => ⟨p, rfl, ⟨_, SqL.of ep⟩, fun D hD => ?_⟩⟩
        refine lc_list (K := K) (a := p) (xs := X.ws.map fun x => V.ref x.j) (fun i H2 => AccL K H1 D (((X.ws.take i).filter fun s => s.rq.wr).map fun s => s.rq.d) H2) (AccL.start hD) (fun i H2 _ ⟨_, _, _, s⟩ => SqL.of (s _ _ ep)) ?_ ?_
        · rintro i x2 H2 hi a
          obtain ⟨y, hy, rfl⟩ := ref_at hi
          obtain ⟨vs, e2, hvs, s2⟩ := id a
          have sy := h.snd (List.mem_of_getElem? hy)
          have s12 := s1.trans s2
          have sy2 : SndAt K H2 y := sy.ks (S := []) (KS.of s12) (fun b hb => nomatch hb) fun b _ z => nomatch z
          obtain ⟨rv, ej, hrq⟩ := sy2.oj
          refine ⟨rfl, ?_⟩
          refine ⟨_, rfl, y.j, y.d, _, rfl, ej, zn (by decide +kernel), y, rfl, sy2, _, rfl, ?_⟩
          rw [List.take_add_one, hy, List.filter_append, List.map_append]
          cases hyw : y.rq.wr with
          | false =>
            refine iteN (by decide) ?_
            have e : ((some y).toList.filter fun s : SX => s.rq.wr) = [] := by
              show List.filter (fun s : SX => s.rq.wr) [y] = []
              rw [List.filter_cons_of_neg (by simp [hyw])]
              rfl
            rw [e, List.map_nil, List.append_nil]
            exact a
          | true =>
            refine iteY (by decide) ?_
            have e : ((some y).toList.filter fun s : SX => s.rq.wr) = [y] := by
              show List.filter (fun s : SX => s.rq.wr) [y] = [y]
              rw [List.filter_cons_of_pos (by simp [hyw])]
              rfl
            rw [e]
            refine ⟨_, rfl, y.j, CS K, y.d, _, _, rfl, ej, T.cl_Sending, T.na_Sending_request, ls_rq, ?_⟩
            refine a.put hD (Same.refl H2) hrq (noLs_map (fun s => s.rq.nl) _) y.rq.nl ?_
            rw [List.length_map]
            have h1 := List.length_filter_le (fun s : SX => s.rq.wr) (X.ws.take i)
            have h2 := List.length_take_le i X.ws
            have := hk.n
            have := List.length_take (l := X.ws) (i := i)
            omega
        · rintro H2 ⟨vs, e2, hvs, s2⟩
          rw [List.length_map, List.take_length] at hvs
          have s12 := s1.trans s2
          have ht2 := Same.seqT s12 ht
          refine ⟨_, rfl, t, _, ((1 : Nat) : Int), .int (x.rq.blk : Int), rfl, rfl, ht2, atI_n (j := 1) rfl, _, rfl, D, rfl, ⟨_, SqL.of e2⟩, fun D2 hD2 => ?_⟩
          refine lc_list (K := K) (a := D) (xs := vs) (fun i H3 => H3 D2 = some (.lst ((((X.ws.filter fun s => s.rq.wr).take i).map fun s => (s.rq.blk : Int)).map V.int)) ∧ Same H2 H3) ⟨upd_same, Same.new (Same.refl _) hD2⟩ (fun i H3 _ a => SqL.of (a.2 _ _ e2)) ?_ ?_
          · rintro i v H3 hi ⟨eD, s3⟩
            obtain ⟨d, hd, hdp⟩ := dpAll_get hvs hi
            obtain ⟨y, hy, rfl⟩ : ∃ y, (X.ws.filter fun s => s.rq.wr)[i]? = some y ∧ d = y.rq.d := by
              rw [List.getElem?_map] at hd
              cases e : (X.ws.filter fun s => s.rq.wr)[i]? with
              | none =>
                rw [e] at hd
                cases hd
              | some y =>
                rw [e] at hd
                exact ⟨y, rfl, (Option.some.inj hd).symm⟩
            obtain ⟨t2, rest2, rfl, ht3, _⟩ := rq_two (hdp.same s3)
            refine ⟨rfl, ?_⟩
            refine ⟨_, rfl, t2, _, ((1 : Nat) : Int), .int (y.rq.blk : Int), rfl, rfl, ht3, atI_n (j := 1) rfl, _, eD, ?_, ?_, Same.put s3 hD2⟩
            · rw [List.length_map, List.length_map, List.length_take, sizeLine_eq]
              have h1 := List.length_filter_le (fun s : SX => s.rq.wr) X.ws
              have := hk.n
              omega
            · rw [upd_same, List.take_add_one, hy, List.map_append, List.map_append]
              rfl
          · rintro H3 ⟨eD, s3⟩
            have lv : vs.length = (X.ws.filter fun s => s.rq.wr).length := by
              rw [Rb.DpAll.len hvs, List.length_map]
            rw [lv, List.take_length] at eD
            refine ⟨D2, _, rfl, .inl (SqL.of eD), rfl, ?_, ?_⟩
            · rw [List.all_map, List.all_eq_true]
              intro _ _
              rfl
            have e : inV (.int (x.rq.blk : Int)) (((X.ws.filter fun s => s.rq.wr).map fun s => (s.rq.blk : Int)).map V.int) = (X.ws.filter fun s => s.rq.wr).any fun s => decide (s.rq.blk = x.rq.blk) := by
              unfold inV
              rw [List.any_map, List.any_map]
              congr 1
              funext s
              show decide ((s.rq.blk : Int) = (x.rq.blk : Int)) = decide (s.rq.blk = x.rq.blk)
              by_cases c : s.rq.blk = x.rq.blk
              · rw [decide_eq_true c, decide_eq_true (by omega)]
              · rw [decide_eq_false c, decide_eq_false (by omega)]
            have := kk H3 (s12.trans s3)
            rw [← e] at this
            exact this
end
end Rb
namespace Rb
open PySem PySem.Spec PyProof.Rows L2
/-! ### a driver by its data -/
structure ED where
  rq : RQ
  fi : Option Int
  an : Option Int
  sd : Nat
structure SD where
  k : Nat
  rq : RQ
  ru : Int
structure DD where
  th : Th
  bh : Bool
  bk : Bool
  dv : Int
  sq : Int
  pt : Int
  wr : Bool
  md : Int
  tk : Int
  rg : Int
  es : List ED
  ss : List SD
  n : Nat
  unsent : List Int
  free : List Int
  left : List PyData
  res : List PyData
def EX.dat (x : EX) : ED := ⟨x.rq, x.fi, x.an, x.sd⟩
def SX.dat (x : SX) : SD := ⟨x.k, x.rq, x.ru⟩
def DV.dat (X : DV) : DD := ⟨X.th, X.bh.isSome, X.bk, X.dv, X.sq, X.pt, X.wr, X.md, X.tk, X.rg, X.es.map EX.dat, X.ss.map SX.dat, X.n, X.unsent, X.free, X.left, X.res⟩
/-- what holds of a driver at its end -/
def DEnd (K : PySem.W.Frag) (H : Hp) (mm : Addr) (X : DV) (P : DV → Prop) (Q : Hp → Prop) : Prop :=
  ∀ X' H', DrvAt K H' mm X' → X'.o = X.o → KS X.all H H' → (∀ b ∈ X'.all, b ∈ X.all ∨ H b = none) → P X' → Q H'
theorem KS.free {S : List Addr} {H H' : Hp} (k : KS S H H') {p : Addr} (h : H' p = none) (hp : p ∉ S) : H p = none := by
  cases e : H p with
  | none => rfl
  | some o =>
    have := k p o e hp
    rw [h] at this
    cases this
theorem DrvAt.inO {K : PySem.W.Frag} {H : Hp} {mm : Addr} {X : DV} (h : DrvAt K H mm X) : ∀ b ∈ [X.o], b ∈ X.all := fun b hb => by
  rw [List.mem_singleton.mp hb]
  simp [DV.all]
/-- from a driver on to a driver further on -/
theorem DEnd.step {K : PySem.W.Frag} {H H1 : Hp} {mm : Addr} {X X1 : DV} {P P' : DV → Prop} {Q : Hp → Prop} (d : DEnd K H mm X P Q) (h : DrvAt K H mm X) (h1 : X1.o = X.o) (ks : KS X.all H H1) (ha : ∀ b ∈ X1.all, b ∈ X.all ∨ H b = none) (hP : ∀ X', P' X' → P X') : DEnd K H1 mm X1 P' Q := fun X' H' a b c e f => by
  refine d X' H' a (b.trans h1) ?_ (fun x hx => ?_) (hP X' f)
  · refine fun x o ex n => ?_
    refine c x o (ks x o ex n) fun z => ?_
    rcases ha x z with q | q
    · exact n q
    · rw [ex] at q
      cases q
  · rcases e x hx with q | q
    · exact ha x q
    · by_cases z : x ∈ X.all
      · exact .inl z
      · exact .inr (ks.free q z)
theorem DEnd.same {K : PySem.W.Frag} {H H1 : Hp} {mm : Addr} {X : DV} {P : DV → Prop} {Q : Hp → Prop} (d : DEnd K H mm X P Q) (h : DrvAt K H mm X) (s : Same H H1) : DEnd K H1 mm X P Q := d.step h rfl (KS.of s) (fun b hb => .inl hb) fun _ z => z
theorem all_re {X : DV} {le re q uw fr : Addr} {th : Th} {bh : Option Addr} {bk wr : Bool} {sq pt md tk rg : Int} {sn : V} {left res : List PyData} {free : List Int} {n : Nat} {b : Addr}
    (hb : b ∈ DV.all { X with le := le, re := re, q := q, uw := uw, fr := fr, th := th, bh := bh, bk := bk, wr := wr, sq := sq, pt := pt, md := md, tk := tk, rg := rg, sn := sn, left := left, res := res, free := free, n := n }) : b ∈ X.all ∨ b = le ∨ b = re ∨ b = q ∨ b = uw ∨ b = fr ∨ bh = some b := by
  rcases List.mem_append.mp hb with z | z
  · simp only [List.mem_cons, List.not_mem_nil, or_false] at z
    rcases z with rfl | rfl | rfl | rfl | rfl | rfl | rfl | rfl | rfl | rfl | rfl
    · exact .inl (by simp [DV.all])
    · exact .inl (by simp [DV.all])
    · exact .inl (by simp [DV.all])
    · exact .inl (by simp [DV.all])
    · exact .inl (by simp [DV.all])
    · exact .inl (by simp [DV.all])
    · exact .inr (.inr (.inr (.inr (.inl rfl))))
    · exact .inr (.inr (.inr (.inr (.inr (.inl rfl)))))
    · exact .inr (.inl rfl)
    · exact .inr (.inr (.inl rfl))
    · exact .inr (.inr (.inr (.inl rfl)))
  · rcases List.mem_append.mp z with z | z
    · refine .inr (.inr (.inr (.inr (.inr (.inr ?_)))))
      cases bh with
      | none => exact nomatch z
      | some c =>
        simp at z
        rw [z]
    · exact .inl (List.mem_append_right _ (List.mem_append_right _ z))
theorem DEnd.make {K : PySem.W.Frag} {H Hs H' : Hp} {mm le re q : Addr} {X : DV} {P : DV → Prop} {Q : Hp → Prop} {ds : List PyData} {th : Th} (k : DEnd K H mm X P Q) (h : DrvAt K H mm X) (s : Same H Hs) (fq : H q = none) (hm : DrvAt K H' mm { X with le := le, re := re, left := ds, res := [], th := th, q := q }) (ks : KS [X.o] Hs H') (fl : Hs le = none) (fr : Hs re = none)
    (hP : P { X with le := le, re := re, left := ds, res := [], th := th, q := q }) : Q H' := by
  refine k _ H' hm rfl ((KS.of s).trans (ks.mono h.inO)) (fun b hb => ?_) hP
  rcases all_re hb with z | z | z | z | z | z | z
  · exact .inl z
  · exact .inr (by rw [z]; exact s.free fl)
  · exact .inr (by rw [z]; exact s.free fr)
  · exact .inr (by rw [z]; exact fq)
  · exact .inl (by rw [z]; simp [DV.all])
  · exact .inl (by rw [z]; simp [DV.all])
  · exact .inl (DV.in_b z)
/-- other fields -/
theorem DrvAt.fld {K : PySem.W.Frag} {H : Hp} {mm : Addr} {X : DV} (h : DrvAt K H mm X) {bk wr : Bool} {sq pt md tk rg : Int} {sn : V} {fs : FV} (e : fs = DV.f { X with bk := bk, wr := wr, sq := sq, pt := pt, md := md, tk := tk, rg := rg, sn := sn } mm) :
    DrvAt K (upd H X.o (.ins (CR K) X.d (rFld fs))) mm { X with bk := bk, wr := wr, sq := sq, pt := pt, md := md, tk := tk, rg := rg, sn := sn } ∧ KS [X.o] H (upd H X.o (.ins (CR K) X.d (rFld fs))) ∧
    ∀ {P P' : DV → Prop} {Q : Hp → Prop}, DEnd K H mm X P Q → (∀ X', P' X' → P X') → DEnd K (upd H X.o (.ins (CR K) X.d (rFld fs))) mm { X with bk := bk, wr := wr, sq := sq, pt := pt, md := md, tk := tk, rg := rg, sn := sn } P' Q := by
  have ks : KS [X.o] H (upd H X.o (.ins (CR K) X.d (rFld fs))) := KS.refl.upd (by simp)
  obtain ⟨l1, e1, _⟩ := id h.ole.e
  obtain ⟨l2, e2, _⟩ := id h.ore.e
  have nl := h.nl
  simp only [List.nodup_cons, List.mem_cons, List.not_mem_nil, or_false, not_or, List.nodup_nil, and_true, not_false_eq_true] at nl
  refine ⟨h.remk ks (by rw [upd_same, e]) (h.ole.ks ks h.mv1.noT (h.noO e1 (by simp [tg]))) (h.ore.ks ks h.mv1.noT (h.noO e2 (by simp [tg]))) (ks _ _ h.ouw (h.noO h.ouw (by simp [tg]))) (ks _ _ h.ofr (h.noO h.ofr (by simp [tg]))) (ks _ _ h.mt.oth (h.noO h.mt.oth (by simp [tg]))) (fun b e => ks _ _ (h.mt.obh b e) (h.noO (h.mt.obh b e) (by simp [tg]))) (.inl rfl) (.inl rfl) (.inl rfl) nl.2.2.2 (fun z => nl.2.2.1.1 z.symm) (fun z => nl.2.2.1.2 z.symm), ks, fun k hP => k.step h rfl (ks.mono h.inO) (fun b hb => .inl hb) hP⟩
def ackD : PyData := .tuple [.str "read", .int 68]
def lookD : PyData := .tuple [.str "read", .int 4]
def intrD : PyData := .tuple [.str "read", .int 51]
def rdyD : PyData := .tuple [.str "read", .int 50]
def rstD : PyData := .tuple [.str "write", .int 49, .int 1]
def spLook (K : PySem.W.Frag) : Sp := fun vs H Q _ => ∃ (mm : Addr) (X : DV), vs = [.ref X.o] ∧ DrvAt K H mm X ∧ X.dv = 0 ∧ DEnd K H mm X (fun X' => X'.dat = { X.dat with left := [ackD], res := [], th := .ackn }) (Q .non)
def spAsk (K : PySem.W.Frag) : Sp := fun vs H Q _ => ∃ (mm : Addr) (X : DV) (n : Int), vs = [.ref X.o, .int n] ∧ DrvAt K H mm X ∧ X.dv = 0 ∧ DEnd K H mm X (fun X' => X'.dat = { X.dat with free := [2, 3, 4, 5], rg := 0, left := [rstD, rdyD], res := [], th := .rdy }) (Q .non)
section
variable {P : Program} {w : World} {K : PySem.W.Frag} {mg : Str → Option Value} {base : Heap}
theorem ok_look (T : Top K mg) : FnC P w K mg base CX0 5 (He.ma K (He.ga K "Driver") "_look_for_ticket") (spLook K) := by
  have G_Driver__make := ok_make (P := P) (w := w) (base := base) T
  have G_acknowledge := ok_acknowledge (P := P) (w := w) (base := base) T
  refine fnc0 T.d_Driver__look_for_ticket sc_Driver__look_for_ticket (fun _ _ _ _ _ _ us hl => match us, hl with | [_], _ => rfl) (fun vs H Q E h => ?_) (fun cdv A outer s H vs Q E hr h => ?_)
  · obtain ⟨mm, X, rfl, _⟩ := h
    rfl
  · obtain ⟨mm, X, rfl, h, hd, k⟩ := h
    refine ⟨_, (pss_one (ps_expr (pe_m G_Driver__make hr (by decide) T.cl_Driver T.me_Driver__make pass0 (pv 0) (pa_cons (pe_lst (pa_cons (pe_tup (pa_cons pe_str (pa_cons (pe_f G_acknowledge hr (by decide) (by rfl) T.g_acknowledge pass0 (pa_cons (pe_fld (pv 0) rfl) pa_nil)) pa_nil))) pa_nil)) (pa_cons (pe_bnd T.cl_Driver (T.bm_Driver__take_acknowledge.b T.me_Driver__take_acknowledge) (pv 0)) pa_nil))))), ?_⟩
    refine ⟨_, rfl, X.o, X.d, _, rfl, h.oo, zn (by decide +kernel), ?_⟩
    refine ⟨_, rfl, X.o, CR K, X.d, _, _, rfl, h.oo, T.cl_Driver, T.na_Driver__device, lr_dv, X.dv, rfl, (by show 2 ≤ sizeLine; decide), fun q1 f1 => ⟨(by show 1 ≤ sizeLine; decide), fun p fp => ?_⟩⟩
    have s1 := Same.new (o := HO.tup [V.str "read", .int (ackw X.dv)]) (Same.refl _) f1
    have s2 := s1.trans (Same.new (o := HO.lst [V.ref q1]) (Same.refl _) fp)
    refine ⟨_, rfl, X.o, X.d, _, rfl, s2 _ _ h.oo, zn (by decide +kernel), fun q fq => ?_⟩
    have s3 := s2.trans (Same.new (o := HO.met (He.ma K (He.ga K "Driver") "_take_acknowledge") X.o) (Same.refl _) fq)
    dsimp only [tNil, List.append_nil]
    have fq0 : H q = none := s2.free fq
    refine ⟨mm, p, q, X, .ackn, [ackD], [.ref q1], rfl, h.same s3, ?_, .cons (.tup (xs := [V.str "read", .int (ackw X.dv)]) (SqT.of ?_) (.cons (.str _) (.cons (by rw [hd]; exact .int _) .nil))) .nil, rfl, upd_same, fun le re H' hm ks fl fr => k.make h s3 fq0 hm ks fl fr rfl⟩
    · exact (Same.new (o := HO.met (He.ma K (He.ga K "Driver") "_take_acknowledge") X.o) (Same.refl _) fq) _ _ upd_same
    · exact ((Same.new (o := HO.lst [V.ref q1]) (Same.refl _) fp).trans (Same.new (o := HO.met (He.ma K (He.ga K "Driver") "_take_acknowledge") X.o) (Same.refl _) fq)) _ _ upd_same
theorem ok_ask (T : Top K mg) : FnC P w K mg base CX0 5 (He.ma K (He.ga K "Driver") "_ask_for_reset") (spAsk K) := by
  have G_Driver__make := ok_make (P := P) (w := w) (base := base) T
  have G_reset := ok_reset (P := P) (w := w) (base := base) T
  have G_ready := ok_ready (P := P) (w := w) (base := base) T
  refine fnc0 T.d_Driver__ask_for_reset sc_Driver__ask_for_reset (fun _ _ _ _ _ _ us hl => match us, hl with | [_, _], _ => rfl) (fun vs H Q E h => ?_) (fun cdv A outer s H vs Q E hr h => ?_)
  · obtain ⟨mm, X, n, rfl, _⟩ := h
    rfl
  · obtain ⟨mm, X, n, rfl, h, hd, k⟩ := h
    refine ⟨_, (pss_cons (ps_fld (pv 0) (pe_callTy call_list_of (by rfl) T.b_list (by decide +kernel) (pa_cons (pe_gc (by rfl) T.c_POOL) pa_nil)) rfl)
    (pss_cons (ps_fld (pv 0) pe_int rfl)
    (pss_cons (ps_set (i := 2) sc_Driver__ask_for_reset.nd rfl (Or.inl rfl) (pe_lst (pa_cons (pe_tup (pa_cons pe_str (pa_cons (pe_f G_reset hr (by decide) (by rfl) T.g_reset pass0 (pa_cons (pe_fld (pv 0) rfl) pa_nil)) (pa_cons (pe_op op_add (pe_fld (pv 0) rfl) pe_int) pa_nil)))) (pa_cons (pe_tup (pa_cons pe_str (pa_cons (pe_f G_ready hr (by decide) (by rfl) T.g_ready pass0 (pa_cons (pe_fld (pv 0) rfl) pa_nil)) pa_nil))) pa_nil))))
    (pss_one (ps_expr (pe_m G_Driver__make hr (by decide) T.cl_Driver T.me_Driver__make pass0 (pv 0) (pa_cons (pv 2) (pa_cons (pe_bnd T.cl_Driver (T.bm_Driver__take_ready.b T.me_Driver__take_ready) (pv 0)) pa_nil)))))))), ?_⟩
    refine ⟨_, _, rfl, .inr (T.t_POOL _), fun l hl => ?_⟩
    have nol : X.o ≠ l := ne_of_none h.oo hl
    refine ⟨_, rfl, X.o, CR K, X.d, _, rfl, (upd_ne nol).trans h.oo, T.cl_Driver, T.na_Driver__free, (by show 23 < 1000; decide), ?_⟩
    rw [pr_fr]
    refine ⟨_, rfl, X.o, CR K, X.d, _, rfl, upd_same, T.cl_Driver, T.na_Driver__readings, (by show 23 < 1000; decide), ?_⟩
    rw [pr_rg]
    have ks := ((KS.refl (S := [X.o]) (H := H)).put (o := .lst [V.int 2, .int 3, .int 4, .int 5]) hl).upd (p := X.o) (o := .ins (CR K) X.d (rFld { X.f mm with fr := l })) (by simp)
    have ks := ks.upd (p := X.o) (o := .ins (CR K) X.d (rFld { X.f mm with fr := l, rg := 0 })) (by simp)
    obtain ⟨l1, e1, _⟩ := id h.ole.e
    obtain ⟨l2, e2, _⟩ := id h.ore.e
    have h1 : DrvAt K _ mm { X with fr := l, free := [2, 3, 4, 5], rg := 0 } := h.remk (fr := l) (free := [2, 3, 4, 5]) (rg := 0) (bk := X.bk) (sq := X.sq) (pt := X.pt) (wr := X.wr) (md := X.md) (tk := X.tk) (sn := X.sn) ks upd_same (h.ole.ks ks h.mv1.noT (h.noO e1 (by simp [tg]))) (h.ore.ks ks h.mv1.noT (h.noO e2 (by simp [tg]))) (ks _ _ h.ouw (h.noO h.ouw (by simp [tg]))) ((upd_ne nol.symm).trans ((upd_ne nol.symm).trans upd_same)) (ks _ _ h.mt.oth (h.noO h.mt.oth (by simp [tg]))) (fun b e => ks _ _ (h.mt.obh b e) (h.noO (h.mt.obh b e) (by simp [tg]))) (.inl rfl) (.inl rfl) (.inr hl) (by have := h.nl; simp at this; exact this.2.2.2) (ne_of_none e1 hl) (ne_of_none e2 hl)
    have k1 := k.step (P' := fun X' => X'.dat = { X.dat with free := [2, 3, 4, 5], rg := 0, left := [rstD, rdyD], res := [], th := .rdy }) h (X1 := { X with fr := l, free := [2, 3, 4, 5], rg := 0 }) rfl (ks.mono h.inO) (fun b hb => by
      rcases all_re (X := X) hb with z | z | z | z | z | z | z
      · exact .inl z
      · exact .inl (by rw [z]; simp [DV.all])
      · exact .inl (by rw [z]; simp [DV.all])
      · exact .inl (by rw [z]; simp [DV.all])
      · exact .inl (by rw [z]; simp [DV.all])
      · exact .inr (by rw [z]; exact hl)
      · exact .inl (DV.in_b z)) fun _ z => z
    generalize (upd (upd (upd H l (.lst [V.int 2, .int 3, .int 4, .int 5])) X.o (.ins (CR K) X.d (rFld { X.f mm with fr := l }))) X.o (.ins (CR K) X.d (rFld { X.f mm with fr := l, rg := 0 }))) = H1 at h1 k1 ⊢
    have o1 := h1.oo
    refine ⟨_, rfl, X.o, CR K, X.d, _, _, rfl, o1, T.cl_Driver, T.na_Driver__device, lr_dv, X.dv, rfl, _, rfl, X.o, CR K, X.d, _, _, rfl, o1, T.cl_Driver, T.na_Driver_generation, lr_gen, _, _, rfl, rfl, (by show 3 ≤ sizeLine; decide), fun q1 f1 => ?_⟩
    have s1 := Same.new (o := HO.tup [V.str "write", .int (dbell X.dv + 1), .int 1]) (Same.refl _) f1
    refine ⟨_, rfl, X.o, CR K, X.d, _, _, rfl, s1 _ _ o1, T.cl_Driver, T.na_Driver__device, lr_dv, X.dv, rfl, (by show 2 ≤ sizeLine; decide), fun q2 f2 => ?_⟩
    have s2 := Same.new (o := HO.tup [V.str "read", .int (dbell X.dv + 2)]) (Same.refl _) f2
    refine ⟨(by show 2 ≤ sizeLine; decide), fun p fp => ?_⟩
    have s3 := Same.new (o := HO.lst [V.ref q1, .ref q2]) (Same.refl _) fp
    have s123 := s1.trans (s2.trans s3)
    refine ⟨_, rfl, X.o, X.d, _, rfl, s123 _ _ o1, zn (by decide +kernel), _, rfl, _, rfl, X.o, X.d, _, rfl, s123 _ _ o1, zn (by decide +kernel), fun q fq => ?_⟩
    have s4 := Same.new (o := HO.met (He.ma K (He.ga K "Driver") "_take_ready") X.o) (Same.refl _) fq
    dsimp only [tNil, List.append_nil]
    have fq0 : H1 q = none := s123.free fq
    exact ⟨mm, p, q, { X with fr := l, free := [2, 3, 4, 5], rg := 0 }, .rdy, [rstD, rdyD], [.ref q1, .ref q2], rfl, h1.same (s123.trans s4), s4 _ _ upd_same, .cons (.tup (xs := [V.str "write", .int (dbell X.dv + 1), .int 1]) (SqT.of ((s2.trans (s3.trans s4)) _ _ upd_same)) (.cons (.str _) (.cons (by rw [hd]; exact .int _) (.cons (.int _) .nil)))) (.cons (.tup (xs := [V.str "read", .int (dbell X.dv + 2)]) (SqT.of ((s3.trans s4) _ _ upd_same)) (.cons (.str _) (.cons (by rw [hd]; exact .int _) .nil))) .nil), rfl, upd_same, fun le re H' hm ks fl fr => k1.make h1 (s123.trans s4) fq0 hm ks fl fr rfl⟩
def spTick (K : PySem.W.Frag) : Sp := fun vs H Q _ => ∃ (mm : Addr) (X : DV) (n t : Int), vs = [.ref X.o, .ref X.re, .int n] ∧ DrvAt K H mm X ∧ X.dv = 0 ∧ (∃ ds, X.res = ds ++ [.int t]) ∧ DEnd K H mm X (fun X' => X'.dat = { X.dat with tk := t, left := [ackD], res := [], th := .ackn }) (Q .non)
def spAckn (K : PySem.W.Frag) : Sp := fun vs H Q _ => ∃ (mm : Addr) (X : DV) (n r : Int), vs = [.ref X.o, .ref X.re, .int n] ∧ DrvAt K H mm X ∧ X.dv = 0 ∧ X.bh.isSome = true ∧ (∃ ds, X.res = .int r :: ds) ∧
  DEnd K H mm X (fun X' => X'.dat = if r ≥ X.tk then { X.dat with free := [2, 3, 4, 5], rg := 0, left := [rstD, rdyD], res := [], th := .rdy } else { X.dat with left := [ackD], res := [], th := .ackn }) (Q .non)
theorem dpAll_last {K : PySem.W.Frag} {H : Hp} {xs : List V} {ds : List PyData} {d : PyData} (h : DpAll K H xs (ds ++ [d])) : ∃ v, atI xs (-1) = some v ∧ Dp K H v d := by
  have l := Rb.DpAll.len h
  rw [List.length_append] at l
  have l : xs.length = ds.length + 1 := l
  obtain ⟨v, hv, hd⟩ := dpAll_get' h (i := ds.length) (d := d) (by rw [List.getElem?_append_right (Nat.le_refl _), Nat.sub_self]; rfl)
  refine ⟨v, ?_, hd⟩
  rw [← hv]
  unfold atI ixN
  rw [if_neg (by decide), l]
  rw [if_pos (by omega)]
  show xs[_]? = _
  congr 1
  omega
theorem ok_tick (T : Top K mg) : FnC P w K mg base CX0 6 (He.ma K (He.ga K "Driver") "_take_ticket") (spTick K) := by
  have G_Driver__look_for_ticket := ok_look (P := P) (w := w) (base := base) T
  refine fnc0 T.d_Driver__take_ticket sc_Driver__take_ticket (fun _ _ _ _ _ _ us hl => match us, hl with | [_, _, _], _ => rfl) (fun vs H Q E h => ?_) (fun cdv A outer s H vs Q E hr h => ?_)
  · obtain ⟨mm, X, n, t, rfl, _⟩ := h
    rfl
  · obtain ⟨mm, X, n, t, rfl, h, hd, ⟨ds, hr2⟩, k⟩ := h
    obtain ⟨l1, e1, _⟩ := id h.ole.e
    obtain ⟨l2, e2, d2⟩ := id h.ore.e
    rw [hr2] at d2
    obtain ⟨v, hv, dv⟩ := dpAll_last d2
    have := dp_int dv
    subst this
    refine ⟨_, (pss_cons (ps_fld (pv 0) (pe_ix ix_list (pv 1) (pe_un un_neg pe_int) (fun _ _ => rfl)) rfl)
    (pss_one (ps_if (pt_cmpR op_eq (pe_fld (pv 0) rfl) (pe_gc (by rfl) T.c_WAITING) (nomark _)) (pss_one (ps_expr (pe_bcall hr (pv 0) (pa_cons (pv 2) pa_nil)))) (pss_one (ps_expr (pe_m0 G_Driver__look_for_ticket hr (by decide) T.cl_Driver T.me_Driver__look_for_ticket pass0 (pv 0))))))), ?_⟩
    refine ⟨_, rfl, _, rfl, X.re, _, (-1 : Int), .int t, rfl, rfl, SqL.of e2, hv, ?_⟩
    refine ⟨_, rfl, X.o, CR K, X.d, _, rfl, h.oo, T.cl_Driver, T.na_Driver__ticket, (by show 23 < 1000; decide), ?_⟩
    rw [pr_tk]
    obtain ⟨h1, ks1, k1⟩ := h.fld (bk := X.bk) (wr := X.wr) (sq := X.sq) (pt := X.pt) (md := X.md) (tk := t) (rg := X.rg) (sn := X.sn) (fs := { X.f mm with tk := t }) rfl
    have k2 := k1 (P' := fun X' => X'.dat = { X.dat with tk := t, left := [ackD], res := [], th := .ackn }) k fun _ z => z
    generalize upd H X.o (.ins (CR K) X.d (rFld { X.f mm with tk := t })) = H1 at h1 k2 ⊢
    refine ⟨_, rfl, X.o, CR K, X.d, _, _, rfl, h1.oo, T.cl_Driver, T.na_Driver__without, lr_wo, rfl, _, rfl, iteN (by decide) ?_⟩
    refine ⟨_, rfl, X.o, X.d, _, rfl, h1.oo, zn (by decide +kernel), mm, { X with tk := t }, rfl, h1, hd, k2⟩
theorem ok_ackn (T : Top K mg) : FnC P w K mg base CX0 6 (He.ma K (He.ga K "Driver") "_take_acknowledge") (spAckn K) := by
  have G_Driver__look_for_ticket := ok_look (P := P) (w := w) (base := base) T
  have G_ask := ok_ask (P := P) (w := w) (base := base) T
  refine fnc0 T.d_Driver__take_acknowledge sc_Driver__take_acknowledge (fun _ _ _ _ _ _ us hl => match us, hl with | [_, _, _], _ => rfl) (fun vs H Q E h => ?_) (fun cdv A outer s H vs Q E hr h => ?_)
  · obtain ⟨mm, X, n, r, rfl, _⟩ := h
    rfl
  · obtain ⟨mm, X, n, r, rfl, h, hd, hb, ⟨ds, hr2⟩, k⟩ := h
    obtain ⟨l2, e2, d2⟩ := id h.ore.e
    rw [hr2] at d2
    obtain ⟨v, hv, dv⟩ := dpAll_get' d2 (i := 0) rfl
    have := dp_int dv
    subst this
    refine ⟨_, (pss_one (ps_if (pt_cmpR op_ge (pe_ix ix_list (pv 1) pe_int (fun _ _ => rfl)) (pe_fld (pv 0) rfl) (nomark _)) (pss_one (ps_expr (pe_bcall hr (pv 0) (pa_cons (pv 2) pa_nil)))) (pss_one (ps_expr (pe_m0 G_Driver__look_for_ticket hr (by decide) T.cl_Driver T.me_Driver__look_for_ticket pass0 (pv 0)))))), ?_⟩
    refine ⟨_, rfl, X.re, _, ((0 : Nat) : Int), .int r, rfl, rfl, SqL.of e2, atI_n hv, _, rfl, X.o, CR K, X.d, _, _, rfl, h.oo, T.cl_Driver, T.na_Driver__ticket, lr_tk, _, _, rfl, rfl, _, rfl, ?_⟩
    refine ite2 (fun c => ?_) (fun c => ?_)
    · have c : decide (X.tk ≤ r) = true := c
      have c : r ≥ X.tk := of_decide_eq_true c
      rw [if_pos c] at k
      obtain ⟨b, eb⟩ := Option.isSome_iff_exists.mp hb
      refine ⟨_, rfl, X.o, CR K, X.d, _, b, X.o, _, 5, spAsk K, rfl, h.oo, T.cl_Driver, T.na_Driver__behind, ?_, h.mt.obh b eb, T.bm_Driver__ask_for_reset.fi, G_ask, by decide, _, rfl, h.mt.obh b eb, mm, X, n, rfl, h, hd, k⟩
      rw [lr_bh]
      show some (bhV X.bh) = _
      rw [eb]
      rfl
    · have c : ¬ decide (X.tk ≤ r) = true := c
      have c : ¬ r ≥ X.tk := fun z => c (decide_eq_true z)
      rw [if_neg c] at k
      exact ⟨_, rfl, X.o, X.d, _, rfl, h.oo, zn (by decide +kernel), mm, _, rfl, h, hd, k⟩
end
end Rb
namespace Rb
open PySem PySem.Spec PyProof.Rows L2
def spRest (K : PySem.W.Frag) : Sp := fun vs H Q _ => ∃ a b c, vs = [a, b, c] ∧ Q .non H
def spBrk (K : PySem.W.Frag) : Sp := fun vs H Q _ => ∃ (mm : Addr) (X : DV) (n : Int), vs = [.ref X.o, .int n] ∧ DrvAt K H mm X ∧ X.es.length ≤ 60 ∧ (∀ x ∈ X.es, x.an = none) ∧ DEnd K H mm X (fun X' => X'.dat = { X.dat with bk := true, n := 0, es := X.dat.es.map fun x => { x with an := some n } }) (Q .non)
def spRdy (K : PySem.W.Frag) : Sp := fun vs H Q _ => ∃ (mm : Addr) (X : DV) (n r : Int), vs = [.ref X.o, .ref X.re, .int n] ∧ DrvAt K H mm X ∧ X.dv = 0 ∧ X.es.length ≤ 60 ∧ (∀ x ∈ X.es, x.an = none) ∧ r ≠ 1 ∧ (∃ ds, X.res = ds ++ [.int r]) ∧
  DEnd K H mm X (fun X' => X'.dat = if X.rg + 1 < 100 then { X.dat with rg := X.rg + 1, left := [rdyD], res := [], th := .rdy } else { X.dat with rg := X.rg + 1, bk := true, n := 0, es := X.dat.es.map fun x => { x with an := some n } }) (Q .non)
def spIntr (K : PySem.W.Frag) : Sp := fun vs H Q _ => ∃ (mm : Addr) (X : DV) (n : Int), vs = [.ref X.o, .ref X.re, .int n] ∧ DrvAt K H mm X ∧ X.dv = 0 ∧ (∃ ds, X.res = .int 0 :: ds) ∧
  DEnd K H mm X (fun X' => X'.dat = if X.pt + 1 = 4 then { X.dat with pt := X.pt + 1, left := [lookD], res := [], th := .comp } else { X.dat with pt := X.pt + 1 }) (Q .non)
def spIsNew (K : PySem.W.Frag) : Sp := fun vs H Q _ => ∃ (mm : Addr) (X : DV), vs = [.ref X.o, .non] ∧ DrvAt K H mm X ∧ Q (.bl false) H
def spCompl (K : PySem.W.Frag) : Sp := fun vs H Q _ => ∃ (mm : Addr) (X : DV) (n : Int), vs = [.ref X.o, .ref X.re, .int n] ∧ DrvAt K H mm X ∧ (∃ ds, X.res = ds ++ [.none]) ∧ DEnd K H mm X (fun X' => X'.dat = { X.dat with pt := 0 }) (Q .non)
def spTkBk (K : PySem.W.Frag) : Sp := fun vs H Q _ => ∃ (mm : Addr) (X : DV) (p b : Addr) (ps : List Nat), vs = [.ref X.o, .ref p, .ref b] ∧ DrvAt K H mm X ∧ X.dv = 0 ∧ H p = some (.lst (ps.map fun i : Nat => V.int (i : Int))) ∧ ps.length ≤ 10 ∧ H b = some (.met (He.ma K (CR K) "_ask_for_reset") X.o) ∧
  ∀ X' H', DrvAt K H' mm X' → X'.o = X.o → KS X.all H H' → (∀ c ∈ X'.all, c ∈ X.all ∨ H c = none ∨ c = b) → X'.dat = { X.dat with bh := true, left := backD ps, res := [], th := .tick } → Q .non H'
def resetPs (X : DV) : List Nat := 0 :: 1 :: X.ws.map fun x => x.k + 2
def spBegR (K : PySem.W.Frag) : Sp := fun vs H Q _ => ∃ (mm : Addr) (X : DV), vs = [.ref X.o] ∧ DrvAt K H mm X ∧ X.dv = 0 ∧ X.Wk ∧ DEnd K H mm X (fun X' => X'.dat = { X.dat with wr := false, bh := true, left := backD (resetPs X), res := [], th := .tick }) (Q .non)
section
variable {P : Program} {w : World} {K : PySem.W.Frag} {mg : Str → Option Value} {base : Heap}
theorem ok_rest (T : Top K mg) : FnC P w K mg base CX0 1 (He.ma K (He.ga K "Driver") "_rest") (spRest K) := by
  refine fnc0 T.d_Driver__rest sc_Driver__rest (fun _ _ _ _ _ _ us hl => match us, hl with | [_, _, _], _ => rfl) (fun vs H Q E h => ?_) (fun cdv A outer s H vs Q E hr h => ?_)
  · obtain ⟨a, b, c, rfl, _⟩ := h
    rfl
  · obtain ⟨a, b, c, rfl, k⟩ := h
    refine ⟨_, (pss_one ps_pass), ?_⟩
    exact k
theorem dead_fin (T : Top K mg) : FnC P w K mg base CX0 1 (He.ma K (He.ga K "Driver") "_begin_finishing") (fun _ _ _ _ => False) := by
  refine fnc0 T.d_Driver__begin_finishing sc_Driver__begin_finishing (fun _ _ _ _ _ _ us hl => match us, hl with | [_, _], _ => rfl) (fun vs H Q E h => ?_) (fun cdv A outer s H vs Q E hr h => ?_)
  · exact h.elim
  · exact h.elim
theorem ok_brk (T : Top K mg) : FnC P w K mg base CX0 3 (He.ma K (He.ga K "Driver") "_break") (spBrk K) := by
  have G_Clients_break_off := ok_break (P := P) (w := w) (base := base) T
  refine fnc0 T.d_Driver__break sc_Driver__break (fun _ _ _ _ _ _ us hl => match us, hl with | [_, _], _ => rfl) (fun vs H Q E h => ?_) (fun cdv A outer s H vs Q E hr h => ?_)
  · obtain ⟨mm, X, n, rfl, _⟩ := h
    rfl
  · obtain ⟨mm, X, n, rfl, h, hl, ha, k⟩ := h
    obtain ⟨l1, e1, _⟩ := id h.ole.e
    obtain ⟨l2, e2, _⟩ := id h.ore.e
    refine ⟨_, (pss_cons (ps_fld (pv 0) pe_bl rfl)
    (pss_cons (ps_fld (pv 0) pe_dnewK rfl)
    (pss_one (ps_expr (pe_m G_Clients_break_off hr (by decide) T.cl_Clients T.me_Clients_break_off pass0 (pe_fld (pv 0) rfl) (pa_cons (pv 1) pa_nil)))))), ?_⟩
    refine ⟨_, rfl, X.o, CR K, X.d, _, rfl, h.oo, T.cl_Driver, T.na_Driver_broken, (by show 23 < 1000; decide), ?_⟩
    rw [pr_bk]
    obtain ⟨h1, ks1, k1⟩ := h.fld (bk := true) (wr := X.wr) (sq := X.sq) (pt := X.pt) (md := X.md) (tk := X.tk) (rg := X.rg) (sn := X.sn) (fs := { X.f mm with bk := true }) rfl
    have k2 := k1 (P' := fun X' => X'.dat = { X.dat with bk := true, n := 0, es := X.dat.es.map fun x => { x with an := some n } }) k fun _ z => z
    generalize upd H X.o (.ins (CR K) X.d (rFld { X.f mm with bk := true })) = H1 at h1 k2 ⊢
    refine fun q hq => ?_
    have noq : X.o ≠ q := ne_of_none h1.oo hq
    refine ⟨_, rfl, X.o, CR K, X.d, _, rfl, (upd_ne noq).trans h1.oo, T.cl_Driver, T.na_Driver__under_way, (by show 23 < 1000; decide), ?_⟩
    rw [pr_uw]
    have ks2 := ((KS.refl (S := [X.o]) (H := H1)).put (o := .dK []) hq).upd (p := X.o) (o := .ins (CR K) X.d (rFld { X.f mm with bk := true, uw := q })) (by simp)
    have nl := h.nl
    simp only [List.nodup_cons, List.mem_cons, List.not_mem_nil, or_false, not_or, List.nodup_nil, and_true, not_false_eq_true] at nl
    obtain ⟨m1, f1, _⟩ := id h1.ole.e
    obtain ⟨m2, f2, _⟩ := id h1.ore.e
    have h2 : DrvAt K _ mm { X with bk := true, uw := q, n := 0 } := h1.remk (uw := q) (n := 0) (bk := true) (sq := X.sq) (pt := X.pt) (wr := X.wr) (md := X.md) (tk := X.tk) (rg := X.rg) (sn := X.sn) ks2 upd_same (h1.ole.ks ks2 h1.mv1.noT (h1.noO f1 (by simp [tg]))) (h1.ore.ks ks2 h1.mv1.noT (h1.noO f2 (by simp [tg]))) ((upd_ne noq.symm).trans upd_same) (ks2 _ _ h1.ofr (h1.noO h1.ofr (by simp [tg]))) (ks2 _ _ h1.mt.oth (h1.noO h1.mt.oth (by simp [tg]))) (fun b e => ks2 _ _ (h1.mt.obh b e) (h1.noO (h1.mt.obh b e) (by simp [tg]))) (.inl rfl) (.inl rfl) (.inl rfl) nl.2.2.2 (fun z => nl.2.2.1.1 z.symm) (fun z => nl.2.2.1.2 z.symm)
    refine ⟨_, rfl, X.o, CR K, X.d, _, _, rfl, h2.oo, T.cl_Driver, T.na_Driver__clients, lr_cl, X.cl, X.cd, _, rfl, h2.co.oc, zn (by decide +kernel), _, rfl, mm, { X with bk := true, uw := q, n := 0 }, n, rfl, h2, hl, ha, fun H' hD ks' => ?_⟩
    refine k2 _ H' hD rfl ((ks2.mono h1.inO).trans (ks'.mono fun b hb => ?_)) (fun b hb => ?_) ?_
    · obtain ⟨x, hx, rfl⟩ := List.mem_map.mp hb
      exact DV.in_e (X := { X with bk := true }) hx (by simp [EX.all])
    · have e : (X.es.map fun x => ({ x with an := some n } : EX)).flatMap EX.all = X.es.flatMap EX.all := by
        rw [List.flatMap_map]
        rfl
      have hb : b ∈ [X.o, X.d, X.cl, X.cd, X.el, X.un, q, X.fr, X.le, X.re, X.q] ++ (X.bh.toList ++ ((X.es.map fun x => ({ x with an := some n } : EX)).flatMap EX.all ++ X.ss.flatMap SX.all)) := hb
      rw [e] at hb
      have hb : b ∈ DV.all { X with bk := true, uw := q, n := 0 } := hb
      rcases all_re (X := X) hb with z | z | z | z | z | z | z
      · exact .inl z
      · exact .inl (by rw [z]; simp [DV.all])
      · exact .inl (by rw [z]; simp [DV.all])
      · exact .inl (by rw [z]; simp [DV.all])
      · exact .inr (by rw [z]; exact hq)
      · exact .inl (by rw [z]; simp [DV.all])
      · exact .inl (DV.in_b z)
    · show DV.dat _ = _
      unfold DV.dat
      simp only [List.map_map]
      rfl
theorem ok_isnew (T : Top K mg) : FnC P w K mg base CX0 6 (He.ma K (He.ga K "Driver") "_is_new") (spIsNew K) := by
  have G_is_completion := ok_is_completion (P := P) (w := w) (base := base) T
  have G_is_new_completion := ok_is_new_completion (P := P) (w := w) (base := base) T
  refine fnc0 T.d_Driver__is_new sc_Driver__is_new (fun _ _ _ _ _ _ us hl => match us, hl with | [_, _], _ => rfl) (fun vs H Q E h => ?_) (fun cdv A outer s H vs Q E hr h => ?_)
  · obtain ⟨mm, X, rfl, _⟩ := h
    rfl
  · obtain ⟨mm, X, rfl, h, k⟩ := h
    refine ⟨_, (pss_cons (ps_if (pt_cmpR op_eq (pe_fld (pv 0) rfl) (pe_gc (by rfl) T.c_PHASE) (nomark _)) (pss_one (ps_ret (pe_f G_is_completion hr (by decide) (by rfl) T.g_is_completion pass0 (pa_cons (pv 1) pa_nil)))) pss_nil)
    (pss_one (ps_ret (pe_f G_is_new_completion hr (by decide) (by rfl) T.g_is_new_completion pass0 (pa_cons (pv 1) (pa_cons (pe_fld (pv 0) rfl) pa_nil)))))), ?_⟩
    refine ⟨_, rfl, X.o, CR K, X.d, _, _, rfl, h.oo, T.cl_Driver, T.na_Driver__without, lr_wo, rfl, _, rfl, iteN (by decide) ?_⟩
    exact ⟨_, rfl, _, rfl, X.o, CR K, X.d, _, _, rfl, h.oo, T.cl_Driver, T.na_Driver_completions, lr_com, _, _, rfl, .inl ⟨rfl, k⟩⟩
theorem ok_compl (T : Top K mg) : FnC P w K mg base CX0 7 (He.ma K (He.ga K "Driver") "_take_completion") (spCompl K) := by
  have G_Driver__is_new := ok_isnew (P := P) (w := w) (base := base) T
  have G_Driver__begin_finishing := dead_fin (P := P) (w := w) (base := base) T
  refine fnc0 T.d_Driver__take_completion sc_Driver__take_completion (fun _ _ _ _ _ _ us hl => match us, hl with | [_, _, _], _ => rfl) (fun vs H Q E h => ?_) (fun cdv A outer s H vs Q E hr h => ?_)
  · obtain ⟨mm, X, n, rfl, _⟩ := h
    rfl
  · obtain ⟨mm, X, n, rfl, h, ⟨ds, hr2⟩, k⟩ := h
    have hu := hu_of hr
    refine ⟨_, (pss_cons (ps_fld (pv 0) pe_int rfl)
    (pss_cons (ps_set (i := 3) sc_Driver__take_completion.nd rfl (Or.inl rfl) (pe_ix ix_list (pv 1) (pe_un un_neg pe_int) (fun _ _ => rfl)))
    (pss_cons (ps_if (pt_not (pt_val (pe_m G_Driver__is_new hr (by decide) T.cl_Driver T.me_Driver__is_new pass0 (pv 0) (pa_cons (pv 3) pa_nil)))) (pss_one ps_retN) pss_nil)
    (pss_cons (ps_set (i := 4) sc_Driver__take_completion.nd rfl (Or.inl rfl) (pe_ix ix_tup (pv 3) pe_int (fun _ _ => rfl)))
    (pss_one (ps_if (pt_cmp (pc_din hu (pv 4) (pe_fld (pv 0) rfl))) (pss_one (ps_expr (pe_m G_Driver__begin_finishing hr (by decide) T.cl_Driver T.me_Driver__begin_finishing pass0 (pv 0) (pa_cons (pe_dget hu (pe_fld (pv 0) rfl) (pv 4) (fun _ _ => rfl)) pa_nil)))) (pss_one (ps_fld (pv 0) pe_bl rfl)))))))), ?_⟩
    refine ⟨_, rfl, X.o, CR K, X.d, _, rfl, h.oo, T.cl_Driver, T.na_Driver__patience, (by show 23 < 1000; decide), ?_⟩
    rw [pr_pt]
    obtain ⟨h1, ks1, k1⟩ := h.fld (bk := X.bk) (wr := X.wr) (sq := X.sq) (pt := 0) (md := X.md) (tk := X.tk) (rg := X.rg) (sn := X.sn) (fs := { X.f mm with pt := 0 }) rfl
    have k2 := k1 (P' := fun X' => X'.dat = { X.dat with pt := 0 }) k fun _ z => z
    generalize upd H X.o (.ins (CR K) X.d (rFld { X.f mm with pt := 0 })) = H1 at h1 k2 ⊢
    obtain ⟨l2, e2, d2⟩ := id h1.ore.e
    have d2 : DpAll K H1 l2 X.res := d2
    rw [hr2] at d2
    obtain ⟨v, hv, dv⟩ := dpAll_last d2
    have := dp_non dv
    subst this
    refine ⟨_, rfl, _, rfl, X.re, _, (-1 : Int), .non, rfl, rfl, SqL.of e2, hv, ?_⟩
    refine ⟨_, rfl, X.o, X.d, _, rfl, h1.oo, zn (by decide +kernel), _, rfl, mm, { X with pt := 0 }, rfl, h1, _, rfl, iteY rfl ?_⟩
    exact k2 _ H1 h1 rfl KS.refl (fun b hb => .inl hb) rfl
theorem ok_intr (T : Top K mg) : FnC P w K mg base CX0 4 (He.ma K (He.ga K "Driver") "_take_interrupt") (spIntr K) := by
  have G_Driver__make := ok_make (P := P) (w := w) (base := base) T
  have G_ring_cell := ok_ring_cell (P := P) (w := w) (base := base) T
  have G_interrupt := ok_interrupt (P := P) (w := w) (base := base) T
  refine fnc0 T.d_Driver__take_interrupt sc_Driver__take_interrupt (fun _ _ _ _ _ _ us hl => match us, hl with | [_, _, _], _ => rfl) (fun vs H Q E h => ?_) (fun cdv A outer s H vs Q E hr h => ?_)
  · obtain ⟨mm, X, n, rfl, _⟩ := h
    rfl
  · obtain ⟨mm, X, n, rfl, h, hd, ⟨ds, hr2⟩, k⟩ := h
    have hu64 := hr.units
    refine ⟨_, (pss_cons (ps_set (i := 3) sc_Driver__take_interrupt.nd rfl (Or.inl rfl) (pe_tup (pa_cons pe_str (pa_cons (pe_f G_ring_cell hr (by decide) (by rfl) T.g_ring_cell pass0 (pa_cons (pe_fld (pv 0) rfl) (pa_cons (pe_gc (by rfl) T.c_COMPLETIONS) (pa_cons (pe_fld (pv 0) rfl) pa_nil)))) pa_nil))))
    (pss_cons (ps_if (pt_cmpR (op_eqD hu64) (pe_ix ix_list (pv 1) pe_int (fun _ _ => rfl)) pe_int (nomark _)) (pss_cons (ps_expr (pe_m G_Driver__make hr (by decide) T.cl_Driver T.me_Driver__make pass0 (pv 0) (pa_cons (pe_lst (pa_cons (pe_tup (pa_cons pe_str (pa_cons (pe_f G_interrupt hr (by decide) (by rfl) T.g_interrupt pass0 (pa_cons (pe_fld (pv 0) rfl) pa_nil)) (pa_cons pe_int pa_nil)))) (pa_cons (pv 3) pa_nil))) (pa_cons (pe_bnd T.cl_Driver (T.bm_Driver__take_completion.b T.me_Driver__take_completion) (pv 0)) pa_nil))))
    (pss_one ps_retN)) pss_nil)
    (pss_cons (ps_fldaug (pv 0) pe_int in_add)
    (pss_one (ps_if (pt_cmpR op_eq (pe_fld (pv 0) rfl) (pe_gc (by rfl) T.c_MOST_PATIENCE) (nomark _)) (pss_one (ps_expr (pe_m G_Driver__make hr (by decide) T.cl_Driver T.me_Driver__make pass0 (pv 0) (pa_cons (pe_lst (pa_cons (pv 3) pa_nil)) (pa_cons (pe_bnd T.cl_Driver (T.bm_Driver__take_completion.b T.me_Driver__take_completion) (pv 0)) pa_nil))))) pss_nil))))), ?_⟩
    refine ⟨_, rfl, X.o, CR K, X.d, _, _, rfl, h.oo, T.cl_Driver, T.na_Driver__device, lr_dv, _, rfl, X.o, CR K, X.d, _, _, rfl, h.oo, T.cl_Driver, T.na_Driver_completions, lr_com, _, _, _, rfl, (by show 2 ≤ sizeLine; decide), fun t ft => ?_⟩
    have s1 := Same.new (o := HO.tup [V.str "read", .int (fcell X.dv 1 (0 % 4))]) (Same.refl _) ft
    have h1 := h.same s1
    have k1 := k.same h s1
    obtain ⟨l2, e2, d2⟩ := id h1.ore.e
    rw [hr2] at d2
    obtain ⟨v, hv, dv⟩ := dpAll_get' d2 (i := 0) rfl
    have := dp_int dv
    subst this
    have et : (upd H t (HO.tup [V.str "read", .int (fcell X.dv 1 (0 % 4))])) t = _ := upd_same
    refine ⟨_, rfl, X.re, _, ((0 : Nat) : Int), .int 0, rfl, rfl, SqL.of e2, atI_n hv, .int 0, .int 1, .int 0, .int 1, Gd.int.shaped (n := 0) (by decide), Gd.int.shaped (n := 0) (by decide), _, rfl, iteN (by decide +kernel) ?_⟩
    refine ⟨_, rfl, X.o, CR K, X.d, _, _, rfl, h1.oo, T.cl_Driver, T.na_Driver__patience, lr_pt, _, _, rfl, rfl, _, _, h1.oo, (by show 23 < 1000; decide), ?_⟩
    rw [pr_pt]
    obtain ⟨h2, ks2, k2⟩ := h1.fld (bk := X.bk) (wr := X.wr) (sq := X.sq) (pt := X.pt + 1) (md := X.md) (tk := X.tk) (rg := X.rg) (sn := X.sn) (fs := { X.f mm with pt := X.pt + 1 }) rfl
    have k2 := k2 (P' := fun X' => X'.dat = if X.pt + 1 = 4 then { X.dat with pt := X.pt + 1, left := [lookD], res := [], th := .comp } else { X.dat with pt := X.pt + 1 }) k1 fun _ z => z
    have et2 := ks2 _ _ et (h1.noO et (by simp [tg]))
    have eq : (X.f mm).pt = X.pt := rfl
    rw [eq]
    refine ⟨_, rfl, X.o, CR K, X.d, _, _, rfl, h2.oo, T.cl_Driver, T.na_Driver__patience, lr_pt, rfl, _, rfl, ?_⟩
    by_cases c : X.pt + 1 = 4
    · rw [if_pos c] at k2
      refine iteY (by show decide (V.int (X.pt + 1) = V.int 4) = true; rw [c]; decide) ?_
      refine ⟨_, rfl, X.o, X.d, _, rfl, h2.oo, zn (by decide +kernel), _, rfl, (by show 1 ≤ sizeLine; decide), fun p fp => ?_⟩
      have s3 := Same.new (o := HO.lst [V.ref t]) (Same.refl _) fp
      refine ⟨_, rfl, X.o, X.d, _, rfl, s3 _ _ h2.oo, zn (by decide +kernel), fun q fq => ?_⟩
      have s4 := Same.new (o := HO.met (He.ma K (He.ga K "Driver") "_take_completion") X.o) (Same.refl _) fq
      dsimp only [tNil, List.append_nil]
      exact ⟨mm, p, q, { X with pt := X.pt + 1 }, .comp, [lookD], [.ref t], rfl, h2.same (s3.trans s4), s4 _ _ upd_same, .cons (.tup (xs := [V.str "read", .int (fcell X.dv 1 (0 % 4))]) (SqT.of ((s3.trans s4) _ _ et2)) (.cons (.str _) (.cons (by rw [hd]; exact .int _) .nil))) .nil, rfl, upd_same, fun le re H' hm ks fl fr => k2.make h2 (s3.trans s4) (s3.free fq) hm ks fl fr rfl⟩
    · rw [if_neg c] at k2
      refine iteN (by show ¬ decide (V.int (X.pt + 1) = V.int 4) = true; rw [decide_eq_true_eq]; intro z; injection z with z; exact c z) ?_
      exact k2 _ _ h2 rfl KS.refl (fun b hb => .inl hb) rfl
theorem ok_rdy (T : Top K mg) : FnC P w K mg base CX0 5 (He.ma K (He.ga K "Driver") "_take_ready") (spRdy K) := by
  have G_Driver__make := ok_make (P := P) (w := w) (base := base) T
  have G_ready := ok_ready (P := P) (w := w) (base := base) T
  have G_Driver__break := ok_brk (P := P) (w := w) (base := base) T
  refine fnc0 T.d_Driver__take_ready sc_Driver__take_ready (fun _ _ _ _ _ _ us hl => match us, hl with | [_, _, _], _ => rfl) (fun vs H Q E h => ?_) (fun cdv A outer s H vs Q E hr h => ?_)
  · obtain ⟨mm, X, n, r, rfl, _⟩ := h
    rfl
  · obtain ⟨mm, X, n, r, rfl, h, hd, hl, ha, hr1, ⟨ds, hr2⟩, k⟩ := h
    refine ⟨_, (pss_cons (ps_fldaug (pv 0) pe_int in_add)
    (pss_one (ps_if (pt_cmpR op_eq (pe_ix ix_list (pv 1) (pe_un un_neg pe_int) (fun _ _ => rfl)) (pe_op op_add (pe_fld (pv 0) rfl) pe_int) (nomark _)) (pss_one (ps_expr (pe_m G_Driver__make hr (by decide) T.cl_Driver T.me_Driver__make pass0 (pv 0) (pa_cons (pe_lst (pa_cons (pe_tup (pa_cons pe_str pa_nil)) pa_nil)) (pa_cons (pe_bnd T.cl_Driver (T.bm_Driver__take_journal.b T.me_Driver__take_journal) (pv 0)) pa_nil))))) (pss_one (ps_if (pt_cmpR op_lt (pe_fld (pv 0) rfl) (pe_gc (by rfl) T.c_MOST_READINGS) (nomark _)) (pss_one (ps_expr (pe_m G_Driver__make hr (by decide) T.cl_Driver T.me_Driver__make pass0 (pv 0) (pa_cons (pe_lst (pa_cons (pe_tup (pa_cons pe_str (pa_cons (pe_f G_ready hr (by decide) (by rfl) T.g_ready pass0 (pa_cons (pe_fld (pv 0) rfl) pa_nil)) pa_nil))) pa_nil)) (pa_cons (pe_bnd T.cl_Driver (T.bm_Driver__take_ready.b T.me_Driver__take_ready) (pv 0)) pa_nil))))) (pss_one (ps_expr (pe_m G_Driver__break hr (by decide) T.cl_Driver T.me_Driver__break pass0 (pv 0) (pa_cons (pv 2) pa_nil))))))))), ?_⟩
    refine ⟨_, rfl, X.o, CR K, X.d, _, _, rfl, h.oo, T.cl_Driver, T.na_Driver__readings, lr_rg, _, _, rfl, rfl, _, _, h.oo, (by show 23 < 1000; decide), ?_⟩
    rw [pr_rg]
    obtain ⟨h2, ks2, k2⟩ := h.fld (bk := X.bk) (wr := X.wr) (sq := X.sq) (pt := X.pt) (md := X.md) (tk := X.tk) (rg := X.rg + 1) (sn := X.sn) (fs := { X.f mm with rg := X.rg + 1 }) rfl
    have k2 := k2 (P' := fun X' => X'.dat = if X.rg + 1 < 100 then { X.dat with rg := X.rg + 1, left := [rdyD], res := [], th := .rdy } else { X.dat with rg := X.rg + 1, bk := true, n := 0, es := X.dat.es.map fun x => { x with an := some n } }) k fun _ z => z
    have eq : (X.f mm).rg = X.rg := rfl
    rw [eq]
    generalize upd H X.o (.ins (CR K) X.d (rFld { X.f mm with rg := X.rg + 1 })) = H2 at h2 k2 ⊢
    obtain ⟨l2, e2, d2⟩ := id h2.ore.e
    have d2 : DpAll K H2 l2 X.res := d2
    rw [hr2] at d2
    obtain ⟨v, hv, dv⟩ := dpAll_last d2
    have := dp_int dv
    subst this
    refine ⟨_, rfl, _, rfl, X.re, _, (-1 : Int), .int r, rfl, rfl, SqL.of e2, hv, _, rfl, X.o, CR K, X.d, _, _, rfl, h2.oo, T.cl_Driver, T.na_Driver_generation, lr_gen, _, _, rfl, rfl, rfl, _, rfl, ?_⟩
    refine iteN (by show ¬ decide (V.int r = V.int (0 + 1)) = true; rw [decide_eq_true_eq]; intro z; injection z with z; exact hr1 z) ?_
    refine ⟨_, rfl, X.o, CR K, X.d, _, _, rfl, h2.oo, T.cl_Driver, T.na_Driver__readings, lr_rg, _, _, rfl, rfl, _, rfl, ?_⟩
    by_cases c : X.rg + 1 < 100
    · rw [if_pos c] at k2
      refine iteY (by show decide (X.rg + 1 < 100) = true; exact decide_eq_true c) ?_
      refine ⟨_, rfl, X.o, X.d, _, rfl, h2.oo, zn (by decide +kernel), ?_⟩
      refine ⟨_, rfl, X.o, CR K, X.d, _, _, rfl, h2.oo, T.cl_Driver, T.na_Driver__device, lr_dv, X.dv, rfl, (by show 2 ≤ sizeLine; decide), fun q1 f1 => ⟨(by show 1 ≤ sizeLine; decide), fun p fp => ?_⟩⟩
      have s1 := Same.new (o := HO.tup [V.str "read", .int (dbell X.dv + 2)]) (Same.refl _) f1
      have s2 := Same.new (o := HO.lst [V.ref q1]) (Same.refl _) fp
      have s12 := s1.trans s2
      refine ⟨_, rfl, X.o, X.d, _, rfl, s12 _ _ h2.oo, zn (by decide +kernel), fun q fq => ?_⟩
      have s3 := Same.new (o := HO.met (He.ma K (He.ga K "Driver") "_take_ready") X.o) (Same.refl _) fq
      dsimp only [tNil, List.append_nil]
      exact ⟨mm, p, q, { X with rg := X.rg + 1 }, .rdy, [rdyD], [.ref q1], rfl, h2.same (s12.trans s3), s3 _ _ upd_same, .cons (.tup (xs := [V.str "read", .int (dbell X.dv + 2)]) (SqT.of ((s2.trans s3) _ _ upd_same)) (.cons (.str _) (.cons (by rw [hd]; exact .int _) .nil))) .nil, rfl, upd_same, fun le re H' hm ks fl fr => k2.make h2 (s12.trans s3) (s12.free fq) hm ks fl fr rfl⟩
    · rw [if_neg c] at k2
      refine iteN (by show ¬ decide (X.rg + 1 < 100) = true; rw [decide_eq_true_eq]; exact c) ?_
      exact ⟨_, rfl, X.o, X.d, _, rfl, h2.oo, zn (by decide +kernel), _, rfl, mm, { X with rg := X.rg + 1 }, n, rfl, h2, hl, ha, k2⟩
end
end Rb
namespace Rb
open PySem PySem.Spec PyProof.Rows L2
theorem backD_nl (ps : List Nat) : noLs (backD ps) = true := by
  unfold backD
  rw [noLs_app, noLs_map (fun _ => rfl), noLs_map (fun _ => rfl)]
  rfl
section
variable {P : Program} {w : World} {K : PySem.W.Frag} {mg : Str → Option Value} {base : Heap}
theorem ok_tkbk (T : Top K mg) : FnC P w K mg base CX0 5 (He.ma K (He.ga K "Driver") "_take_back") (spTkBk K) := by
  have G_Driver__make := ok_make (P := P) (w := w) (base := base) T
  have G_take_back := ok_back (P := P) (w := w) (base := base) T
  refine fnc0 T.d_Driver__take_back sc_Driver__take_back (fun _ _ _ _ _ _ us hl => match us, hl with | [_, _, _], _ => rfl) (fun vs H Q E h => ?_) (fun cdv A outer s H vs Q E hr h => ?_)
  · obtain ⟨mm, X, p, b, ps, rfl, _⟩ := h
    rfl
  · obtain ⟨mm, X, p, b, ps, rfl, h, hd, hp, hl, hb, k⟩ := h
    refine ⟨_, (pss_cons (ps_fld (pv 0) (pv 2) rfl)
    (pss_one (ps_expr (pe_m G_Driver__make hr (by decide) T.cl_Driver T.me_Driver__make pass0 (pv 0) (pa_cons (pe_f G_take_back hr (by decide) (by rfl) T.g_take_back pass0 (pa_cons (pe_fld (pv 0) rfl) (pa_cons (pv 1) pa_nil))) (pa_cons (pe_bnd T.cl_Driver (T.bm_Driver__take_ticket.b T.me_Driver__take_ticket) (pv 0)) pa_nil)))))), ?_⟩
    refine ⟨_, rfl, _, rfl, X.o, CR K, X.d, _, rfl, h.oo, T.cl_Driver, T.na_Driver__behind, (by show 23 < 1000; decide), ?_⟩
    rw [pr_bh]
    have ks : KS [X.o] H (upd H X.o (.ins (CR K) X.d (rFld { X.f mm with bh := .ref b }))) := KS.refl.upd (by simp)
    obtain ⟨l1, e1, _⟩ := id h.ole.e
    obtain ⟨l2, e2, _⟩ := id h.ore.e
    have nl := h.nl
    simp only [List.nodup_cons, List.mem_cons, List.not_mem_nil, or_false, not_or, List.nodup_nil, and_true, not_false_eq_true] at nl
    have h1 : DrvAt K _ mm { X with bh := some b } := h.remk (bh := some b) (bk := X.bk) (wr := X.wr) (sq := X.sq) (pt := X.pt) (md := X.md) (tk := X.tk) (rg := X.rg) (sn := X.sn) ks upd_same (h.ole.ks ks h.mv1.noT (h.noO e1 (by simp [tg]))) (h.ore.ks ks h.mv1.noT (h.noO e2 (by simp [tg]))) (ks _ _ h.ouw (h.noO h.ouw (by simp [tg]))) (ks _ _ h.ofr (h.noO h.ofr (by simp [tg]))) (ks _ _ h.mt.oth (h.noO h.mt.oth (by simp [tg]))) (fun c e => by injection e with e; subst e; exact ks _ _ hb (h.noO hb (by simp [tg]))) (.inl rfl) (.inl rfl) (.inl rfl) nl.2.2.2 (fun z => nl.2.2.1.1 z.symm) (fun z => nl.2.2.1.2 z.symm)
    have hp1 := ks _ _ hp (h.noO hp (by simp [tg]))
    generalize upd H X.o (.ins (CR K) X.d (rFld { X.f mm with bh := .ref b })) = H1 at h1 hp1 ks ⊢
    refine ⟨_, rfl, X.o, X.d, _, rfl, h1.oo, zn (by decide +kernel), ?_⟩
    refine ⟨_, rfl, X.o, CR K, X.d, _, _, rfl, h1.oo, T.cl_Driver, T.na_Driver__device, lr_dv, _, rfl, p, ps, (by show [V.int X.dv, .ref p] = _; rw [hd]), hp1, hl, fun p2 xs2 H2 fp2 e2 d2 s2 => ?_⟩
    refine ⟨_, rfl, X.o, X.d, _, rfl, s2 _ _ h1.oo, zn (by decide +kernel), fun q fq => ?_⟩
    have s3 := Same.new (o := HO.met (He.ma K (He.ga K "Driver") "_take_ticket") X.o) (Same.refl _) fq
    dsimp only [tNil, List.append_nil]
    refine ⟨mm, p2, q, { X with bh := some b }, .tick, backD ps, xs2, rfl, h1.same (s2.trans s3), s3 _ _ e2, d2.same s3, backD_nl ps, upd_same, fun le re H' hm ks' fl fr => k _ H' hm rfl ((ks.mono h.inO).trans ((KS.of (s2.trans s3)).trans (ks'.mono h.inO))) (fun c hc => ?_) rfl⟩
    have back : ∀ x : Addr, H1 x = none → H x = none := fun x e => by
      cases ex : H x with
      | none => rfl
      | some o =>
        by_cases z : x ∈ [X.o]
        · rw [List.mem_singleton.mp z, h1.oo] at e
          cases e
        · rw [ks _ _ ex z] at e
          cases e
    have s23 := s2.trans s3
    rcases all_re (X := { X with bh := some b }) hc with z | z | z | z | z | z | z
    · rcases all_re (X := X) z with z | z | z | z | z | z | z
      · exact .inl z
      · exact .inl (by rw [z]; simp [DV.all])
      · exact .inl (by rw [z]; simp [DV.all])
      · exact .inl (by rw [z]; simp [DV.all])
      · exact .inl (by rw [z]; simp [DV.all])
      · exact .inl (by rw [z]; simp [DV.all])
      · exact .inr (.inr (Option.some.inj z).symm)
    · exact .inr (.inl (by rw [z]; exact back _ (s23.free fl)))
    · exact .inr (.inl (by rw [z]; exact back _ (s23.free fr)))
    · exact .inr (.inl (by rw [z]; exact back _ (s2.free fq)))
    · exact .inl (by rw [z]; simp [DV.all])
    · exact .inl (by rw [z]; simp [DV.all])
    · exact .inr (.inr (Option.some.inj z).symm)
theorem ok_begR (T : Top K mg) : FnC P w K mg base CX0 6 (He.ma K (He.ga K "Driver") "_begin_reset") (spBegR K) := by
  have G_Driver__sendings := ok_snds (P := P) (w := w) (base := base) T
  have G_buffer_page := ok_buffer_page (P := P) (w := w) (base := base) T
  have G_Driver__take_back := ok_tkbk (P := P) (w := w) (base := base) T
  refine fnc0 T.d_Driver__begin_reset sc_Driver__begin_reset (fun _ _ _ _ _ _ us hl => match us, hl with | [_], _ => rfl) (fun vs H Q E h => ?_) (fun cdv A outer s H vs Q E hr h => ?_)
  · obtain ⟨mm, X, rfl, _⟩ := h
    rfl
  · obtain ⟨mm, X, rfl, h, hd, hk, k⟩ := h
    refine ⟨_, (pss_cons (ps_fld (pv 0) pe_bl rfl)
    (pss_cons (ps_setLc (i := 1) (own := [("sending", 2)]) (g := gName 2) (tt := tYes) rfl sc_Driver__begin_reset.nd rfl rfl (sw_true rfl rfl rfl (by decide +kernel)) (pi_list (pe_m0 G_Driver__sendings hr (by decide) T.cl_Driver T.me_Driver__sendings pass0 (pv 0))) (blkOk_by (N := ["self", "buffers", "sending"]) (sc := defScope s_Driver__begin_reset) (by decide +kernel)) (fun _ _ _ _ _ => (pg_name (i := 2) sc_Driver__begin_reset.nd rfl (Or.inl rfl))) (fun _ _ _ _ _ => pts_nil) (fun _ _ _ _ _ => (pe_f G_buffer_page hr (by decide) (by rfl) T.g_buffer_page pass0 (pa_cons (pe_fldK (K := K) rfl (pv 2) rfl) pa_nil))))
    (pss_one (ps_expr (pe_m G_Driver__take_back hr (by decide) T.cl_Driver T.me_Driver__take_back pass0 (pv 0) (pa_cons (pe_lst (pa_cons (pe_gc (by rfl) T.c_SUBMISSIONS) (pa_cons (pe_gc (by rfl) T.c_COMPLETIONS) (StX.pa_star (pv 1) pa_nil)))) (pa_cons (pe_bnd T.cl_Driver (T.bm_Driver__ask_for_reset.b T.me_Driver__ask_for_reset) (pv 0)) pa_nil))))))), ?_⟩
    refine ⟨_, rfl, X.o, CR K, X.d, _, rfl, h.oo, T.cl_Driver, T.na_Driver__is_wrong, (by show 23 < 1000; decide), ?_⟩
    rw [pr_wr]
    obtain ⟨h1, ks1, k1⟩ := h.fld (bk := X.bk) (wr := false) (sq := X.sq) (pt := X.pt) (md := X.md) (tk := X.tk) (rg := X.rg) (sn := X.sn) (fs := { X.f mm with wr := false }) rfl
    have k2 := k1 (P' := fun X' => X'.dat = { X.dat with wr := false, bh := true, left := backD (resetPs X), res := [], th := .tick }) k fun _ z => z
    generalize upd H X.o (.ins (CR K) X.d (rFld { X.f mm with wr := false })) = H1 at h1 k2 ⊢
    refine ⟨_, rfl, X.o, X.d, _, rfl, h1.oo, zn (by decide +kernel), mm, { X with wr := false }, rfl, h1, ⟨hk.k, hk.n⟩, fun p H2 fp s1 ep => ⟨p, rfl, ⟨_, SqL.of ep⟩, fun D hD => ?_⟩⟩
    refine lc_list (K := K) (a := p) (xs := X.ws.map fun x => V.ref x.j) (fun i H3 => H3 D = some (.lst (((X.ws.take i).map fun x => x.k + 2).map fun i : Nat => V.int (i : Int))) ∧ Same H2 H3) ⟨upd_same, Same.new (Same.refl _) hD⟩ (fun i H3 _ a => SqL.of (a.2 _ _ ep)) ?_ ?_
    · rintro i x H3 hi ⟨eD, s2⟩
      obtain ⟨y, hy, rfl⟩ := ref_at hi
      obtain ⟨rv, ej, _⟩ := (h1.snd (List.mem_of_getElem? hy)).oj
      refine ⟨rfl, ?_⟩
      refine ⟨_, rfl, y.j, CS K, y.d, _, _, rfl, (s1.trans s2) _ _ ej, T.cl_Sending, T.na_Sending_tag, ls_tg, _, rfl, _, eD, ?_, ?_, Same.put s2 hD⟩
      · rw [List.length_map, List.length_map, List.length_take, sizeLine_eq]
        have := hk.n
        omega
      · rw [upd_same, List.take_add_one, hy, List.map_append, List.map_append]
        rfl
    · rintro H3 ⟨eD, s2⟩
      rw [List.length_map, List.take_length] at eD
      have s12 := s1.trans s2
      have h3 := h1.same s12
      have k3 := k2.same h1 s12
      refine ⟨_, rfl, X.o, X.d, _, rfl, h3.oo, zn (by decide +kernel), ?_⟩
      refine ⟨_, rfl, D, _, rfl, .inr (SqL.of eD), ?_⟩
      refine ⟨(by rw [sizeLine_eq]; show (V.int 0 :: V.int 1 :: (((X.ws.map fun x => x.k + 2).map fun i : Nat => V.int (i : Int)) ++ [])).length ≤ _; rw [List.append_nil, List.length_cons, List.length_cons, List.length_map, List.length_map]; have := hk.n; omega), fun p2 fp2 => ?_⟩
      have s4 := Same.new (o := HO.lst (V.int 0 :: V.int 1 :: (((X.ws.map fun x => x.k + 2).map fun i : Nat => V.int (i : Int)) ++ []))) (Same.refl _) fp2
      refine ⟨_, rfl, X.o, X.d, _, rfl, s4 _ _ h3.oo, zn (by decide +kernel), fun b fb => ?_⟩
      have s5 := Same.new (o := HO.met (He.ma K (He.ga K "Driver") "_ask_for_reset") X.o) (Same.refl _) fb
      have s45 := s4.trans s5
      dsimp only [tNil, List.append_nil]
      refine ⟨mm, { X with wr := false }, p2, b, resetPs X, rfl, h3.same s45, hd, s5 _ _ (upd_same.trans (by rw [List.append_nil]; rfl)), (by show (X.ws.map fun x => x.k + 2).length + 1 + 1 ≤ 10; rw [List.length_map]; have := hk.n; omega), upd_same, fun X' H' hD ho ks ha hdat => k3 X' H' hD ho ((KS.of s45).trans ks) (fun c hc => ?_) hdat⟩
      rcases ha c hc with z | z | z
      · exact .inl z
      · exact .inr (s45.free z)
      · exact .inr (by rw [z]; exact s4.free fb)
def spFC (K : PySem.W.Frag) : Sp := fun vs H Q _ => ∃ (mm : Addr) (X : DV) (rv : V) (r : RQ), vs = [.ref X.o, rv] ∧ DrvAt K H mm X ∧ Dp K H rv r.d ∧ r.Ok ∧ ∀ v H', Same H H' → Dp K H' v (.tuple r.cs) → Q v H'
theorem ok_fc (T : Top K mg) : FnC P w K mg base CX0 1 (He.ma K (He.ga K "Driver") "_first_contents") (spFC K) := by
  refine fnc0 T.d_Driver__first_contents sc_Driver__first_contents (fun _ _ _ _ _ _ us hl => match us, hl with | [_, _], _ => rfl) (fun vs H Q E h => ?_) (fun cdv A outer s H vs Q E hr h => ?_)
  · obtain ⟨mm, X, rv, r, rfl, _⟩ := h
    rfl
  · obtain ⟨mm, X, rv, r, rfl, h, hrv, ok, k⟩ := h
    obtain ⟨t, rest, rfl, ht, hrest⟩ := rq_two hrv
    refine ⟨_, (pss_cons (ps_if (pt_cmpR op_eq (pe_ix ix_tup (pv 1) pe_int (fun _ _ => rfl)) pe_str (nomark _)) (pss_one (ps_ret (pe_ix ix_tup (pv 1) pe_int (fun _ _ => rfl)))) pss_nil)
    (pss_one (ps_ret (pe_ifExp (pt_cmpR op_eq (pe_fld (pv 0) rfl) (pe_gc (by rfl) T.c_ZEROS) (nomark _)) (pe_tup pa_nil) (pe_op (r := rRepT K) op_repT (pe_tup (pa_cons pe_int pa_nil)) (pe_gc (by rfl) T.c_CELLS)))))), ?_⟩
    refine ⟨_, rfl, t, _, ((0 : Nat) : Int), .str (kindS r.wr), rfl, rfl, ht, atI_n (j := 0) rfl, rfl, _, rfl, ?_⟩
    unfold RQ.cs at k
    cases hw : r.wr with
    | true =>
      rw [hw] at hrest k
      rw [if_pos rfl] at hrest k
      obtain ⟨v, hv, dv⟩ := dpAll_get' hrest (i := 0) rfl
      refine iteY (by decide +kernel) ?_
      exact ⟨_, rfl, t, _, ((2 : Nat) : Int), v, rfl, rfl, ht, atI_n (j := 2) hv, k v H (Same.refl _) dv⟩
    | false =>
      rw [hw] at k
      rw [if_neg (by decide)] at k
      refine iteN (by decide +kernel) ?_
      refine ⟨_, rfl, X.o, CR K, X.d, _, _, rfl, h.oo, T.cl_Driver, T.na_Driver__without, lr_wo, rfl, _, rfl, iteN (by decide) ?_⟩
      refine ⟨(by show 1 ≤ sizeLine; decide), fun p fp => ?_⟩
      have s1 := Same.new (o := HO.tup [V.int 0]) (Same.refl _) fp
      refine ⟨p, 4, [.int 0], rfl, rfl, SqT.of upd_same, (by simp), by decide, by decide, by decide, fun q fq => ?_⟩
      have s2 := Same.new (o := HO.tup [V.int 0, .int 0, .int 0, .int 0]) (Same.refl _) fq
      exact k (.ref q) _ (s1.trans s2) (.tup (xs := [V.int 0, .int 0, .int 0, .int 0]) (SqT.of upd_same) (.cons (.int _) (.cons (.int _) (.cons (.int _) (.cons (.int _) .nil)))))
end
end Rb
namespace Rb
open PySem PySem.Spec PyProof.Rows L2
theorem seq_n {i n : Nat} (h : i < n) : seqIndex? (i : Int) n = some i := by
  unfold seqIndex?
  simp
  omega
def spSndI (K : PySem.W.Frag) : Sp := fun vs H Q _ => ∃ (o d : Addr) (k : Nat) (rv : V) (r : RQ), vs = [.ref o, .int (k : Int), rv, .int (k : Int), .int (k : Int), .int ((k + 2 : Nat) : Int)] ∧ H o = some (.ins (CS K) d []) ∧ H d = some (.own o) ∧ Dp K H rv r.d ∧
  ∀ H', SndAt K H' ⟨o, d, k, r, 0⟩ → (∀ c u, H c = some u → c ≠ o → H' c = some u) → Q .non H'
/-- the sending at the end of its ringing -/
def spEnds (K : PySem.W.Frag) : Sp := fun vs H Q _ => ∃ (mm : Addr) (X : DV) (n : Int) (s : SX) (e : EX), vs = [.ref X.o, .ref X.re, .int n] ∧ DrvAt K H mm X ∧ X.Wk ∧ X.ss[X.n]? = some s ∧ X.sn = .ref s.j ∧ s.k = X.n ∧ X.es[s.k]? = some e ∧ e.sd ≤ 900 ∧
  DEnd K H mm X (fun X' => X'.dat = { X.dat with ss := X.dat.ss.set X.n { s.dat with ru := X.md }, n := X.n + 1, sq := X.sq + 1, es := X.dat.es.set s.k { e.dat with sd := e.sd + 1 } }) (Q .non)
theorem put_end {ws : List SX} {k : Nat} {v : V} (h : ∀ x ∈ ws, x.k ≠ k) : putK (uwK ws) (Sum.inl (k : Int)) v = uwK ws ++ [(Sum.inl (k : Int), v)] := by
  unfold putK
  rw [if_neg]
  intro z
  obtain ⟨p, hp, e⟩ := List.any_eq_true.mp z
  obtain ⟨x, hx, rfl⟩ := List.mem_map.mp hp
  have e := of_decide_eq_true e
  have e : (x.k : Int) = (k : Int) := Sum.inl.inj e
  exact h x hx (by omega)
theorem DrvAt.rung {K : PySem.W.Frag} {H H3 : Hp} {mm : Addr} {X : DV} {sx : SX} {rv : V} (h : DrvAt K H mm X) (hk : X.Wk) (hs : X.ss[X.n]? = some sx) (hsk : sx.k = X.n) (hrv : Dp K H rv sx.rq.d) (ks : KS [sx.j, X.uw, X.o] H H3)
    (oo3 : H3 X.o = some (.ins (CR K) X.d (rFld { X.f mm with sq := X.sq + 1 }))) (ouw3 : H3 X.uw = some (.dK (putK (uwK (X.ss.take X.n)) (Sum.inl (sx.k : Int)) (.ref sx.j)))) (oj3 : H3 sx.j = some (.ins (CS K) sx.d (sFld sx.k rv X.md))) :
    DrvAt K H3 mm { X with ss := X.ss.set X.n { sx with ru := X.md }, n := X.n + 1, sq := X.sq + 1 } ∧ (∀ b ∈ DV.all { X with ss := X.ss.set X.n { sx with ru := X.md }, n := X.n + 1, sq := X.sq + 1 }, b ∈ X.all) ∧ KS X.all H H3 := by
  have hsm := List.mem_of_getElem? hs
  have hlt := (List.getElem?_eq_some_iff.mp hs).1
  obtain ⟨rv0, ej, _⟩ := (h.ss sx hsm).oj
  have m : Mv H X.el [sx.j, X.uw, X.o] := fun b hb => by
    simp only [List.mem_cons, List.not_mem_nil, or_false] at hb
    rcases hb with rfl | rfl | rfl
    · exact ⟨tg_ne ej h.co.oel (by simp [tg, sFld_len]), _, ej, by simp [tg, sFld_len]⟩
    · exact ⟨tg_ne h.ouw h.co.oel (by simp [tg]), _, h.ouw, by simp [tg]⟩
    · exact ⟨tg_ne h.oo h.co.oel (by simp [tg, rFld_len]), _, h.oo, by simp [tg, rFld_len]⟩
  have no : ∀ {a : Addr} {o : HO}, H a = some o → tg o ≠ 106 → tg o ≠ 3 → tg o ≠ 123 → a ∉ [sx.j, X.uw, X.o] := by
    intro a o e t1 t2 t3 hb
    simp only [List.mem_cons, List.not_mem_nil, or_false] at hb
    rcases hb with z | z | z
    · exact tg_ne e ej (by rw [tg_ins, sFld_len]; exact t1) z
    · exact tg_ne e h.ouw t2 z
    · exact tg_ne e h.oo (by rw [tg_ins, rFld_len]; exact t3) z
  have ts := ks.ts (K := K) m.noT
  obtain ⟨l1, e1, _⟩ := id h.ole.e
  obtain ⟨l2, e2, _⟩ := id h.ore.e
  have co := h.co.keep ks m
  have mt := h.mt.keep ks m
  have esa : (X.ss.set X.n { sx with ru := X.md }).flatMap SX.all = X.ss.flatMap SX.all := by
    rw [List.flatMap_def, List.flatMap_def, map_set', set_self (by rw [List.getElem?_map, hs]; rfl)]
  have esj : (X.ss.set X.n { sx with ru := X.md }).map (fun x => x.j) = X.ss.map (fun x => x.j) := by
    rw [map_set', set_self (by rw [List.getElem?_map, hs]; rfl)]
  refine ⟨⟨oo3, ⟨co.od, co.oc, co.ocd, co.oel⟩, ⟨mt.oth, mt.obh⟩, fun y hy => ?_, fun y hy => ?_, ks _ _ h.oun (no h.oun (by simp [tg]) (by simp [tg]) (by simp [tg])), ?_, ks _ _ h.ofr (no h.ofr (by simp [tg]) (by simp [tg]) (by simp [tg])), h.ole.ks ks m.noT (no e1 (by simp [tg]) (by simp [tg]) (by simp [tg])), h.ore.ks ks m.noT (no e2 (by simp [tg]) (by simp [tg]) (by simp [tg])), h.nl, h.ne, ?_⟩, fun b hb => ?_, ks.mono fun b hb => ?_⟩
  · obtain ⟨rv, av, st, sx, e, _⟩ := (h.es y hy).oj
    exact (h.es y hy).mv ks m (no e (by simp [tg, eFld_len]) (by simp [tg, eFld_len]) (by simp [tg, eFld_len]))
  · rcases set_mem h.ns hs hy with q | ⟨q1, q2⟩
    · rw [q]
      exact ⟨⟨rv, oj3, Rb.Dp.ts ts _ _ sx.rq.nl hrv⟩, ks _ _ (h.ss sx hsm).od (no (h.ss sx hsm).od (by simp [tg]) (by simp [tg]) (by simp [tg]))⟩
    · obtain ⟨rvy, ey, _⟩ := (h.ss y q1).oj
      refine (h.ss y q1).mv ks m ?_
      simp only [List.mem_cons, List.not_mem_nil, or_false, not_or]
      exact ⟨q2, tg_ne ey h.ouw (by simp [tg, sFld_len]), tg_ne ey h.oo (by simp [tg, sFld_len, rFld_len])⟩
  · show H3 X.uw = some (.dK (uwK ((X.ss.set X.n { sx with ru := X.md }).take (X.n + 1))))
    have nk : ∀ x ∈ X.ss.take X.n, x.k ≠ sx.k := fun x hx z => by
      have : x.k ∈ X.ws.map (·.k) := List.mem_map.mpr ⟨x, hx, rfl⟩
      rw [hk.k] at this
      have := List.mem_range.mp this
      have l : X.ws.length = X.n := by
        show (X.ss.take X.n).length = X.n
        rw [List.length_take]
        omega
      omega
    rw [ouw3, put_end nk, List.take_add_one, List.getElem?_set_self hlt, List.take_set_of_le (Nat.le_refl _)]
    unfold uwK
    rw [List.map_append]
    rfl
  · show ((X.ss.set X.n { sx with ru := X.md }).map fun x => x.j).Nodup
    rw [esj]
    exact h.ns
  · have hb : b ∈ [X.o, X.d, X.cl, X.cd, X.el, X.un, X.uw, X.fr, X.le, X.re, X.q] ++ (X.bh.toList ++ (X.es.flatMap EX.all ++ (X.ss.set X.n { sx with ru := X.md }).flatMap SX.all)) := hb
    rw [esa] at hb
    exact hb
  · simp only [List.mem_cons, List.not_mem_nil, or_false] at hb
    rcases hb with rfl | rfl | rfl
    · exact DV.in_s hsm (by simp [SX.all])
    · simp [DV.all]
    · simp [DV.all]
section
variable {P : Program} {w : World} {K : PySem.W.Frag} {mg : Str → Option Value} {base : Heap}
theorem ok_snd_init (T : Top K mg) : FnC P w K mg base CX0 1 (He.ma K (He.ga K "Sending") "__init__") (spSndI K) := by
  refine fnc0 T.d_Sending___init__ sc_Sending___init__ (fun _ _ _ _ _ _ us hl => match us, hl with | [_, _, _, _, _, _], _ => rfl) (fun vs H Q E h => ?_) (fun cdv A outer s H vs Q E hr h => ?_)
  · obtain ⟨o, d, k, rv, r, rfl, _⟩ := h
    rfl
  · obtain ⟨o, d, n, rv, r, rfl, ho, hd, hv, k⟩ := h
    refine ⟨_, (pss_cons (ps_fld (pv 0) (pv 1) rfl)
    (pss_cons (ps_fld (pv 0) (pv 2) rfl)
    (pss_cons (ps_fld (pv 0) (pv 3) rfl)
    (pss_cons (ps_fld (pv 0) (pv 4) rfl)
    (pss_cons (ps_fld (pv 0) (pv 5) rfl)
    (pss_one (ps_fld (pv 0) pe_int rfl))))))), ?_⟩
    have nod : o ≠ d := ne_of ho hd (by intro z; cases z)
    refine ⟨_, rfl, _, rfl, o, CS K, d, List.zip [] [], rfl, ho, T.cl_Sending, T.na_Sending_index, (by decide), ?_⟩
    refine ⟨_, rfl, _, rfl, o, CS K, d, List.zip ["index"] [.int (n : Int)], rfl, (by rw [upd_same, zx (by decide +kernel) rfl]; rfl), T.cl_Sending, T.na_Sending_request, (by show 1 < 1000; decide), ?_⟩
    refine ⟨_, rfl, _, rfl, o, CS K, d, List.zip ["index", "request"] [.int (n : Int), rv], rfl, (by rw [upd_same, zx (by decide +kernel) rfl]; rfl), T.cl_Sending, T.na_Sending_sequence, (by show 2 < 1000; decide), ?_⟩
    refine ⟨_, rfl, _, rfl, o, CS K, d, List.zip ["index", "request", "sequence"] [.int (n : Int), rv, .int (n : Int)], rfl, (by rw [upd_same, zx (by decide +kernel) rfl]; rfl), T.cl_Sending, T.na_Sending_tag, (by show 3 < 1000; decide), ?_⟩
    refine ⟨_, rfl, _, rfl, o, CS K, d, List.zip ["index", "request", "sequence", "tag"] [.int (n : Int), rv, .int (n : Int), .int (n : Int)], rfl, (by rw [upd_same, zx (by decide +kernel) rfl]; rfl), T.cl_Sending, T.na_Sending_frame, (by show 4 < 1000; decide), ?_⟩
    refine ⟨_, rfl, o, CS K, d, List.zip ["index", "request", "sequence", "tag", "frame"] [.int (n : Int), rv, .int (n : Int), .int (n : Int), .int ((n + 2 : Nat) : Int)], rfl, (by rw [upd_same, zx (by decide +kernel) rfl]; rfl), T.cl_Sending, T.na_Sending_rung, (by show 5 < 1000; decide), ?_⟩
    rw [zx (by decide +kernel) rfl]
    have ks : KS [o] H _ := (((((KS.refl (S := [o]) (H := H)).upd (p := o) (o := .ins (CS K) d (putF ("index" : Str) (.int (n : Int)) (List.zip [] []))) (by simp)).upd (p := o) (o := .ins (CS K) d (putF ("request" : Str) rv (List.zip ["index"] [.int (n : Int)]))) (by simp)).upd (p := o) (o := .ins (CS K) d (putF ("sequence" : Str) (.int (n : Int)) (List.zip ["index", "request"] [.int (n : Int), rv]))) (by simp)).upd (p := o) (o := .ins (CS K) d (putF ("tag" : Str) (.int (n : Int)) (List.zip ["index", "request", "sequence"] [.int (n : Int), rv, .int (n : Int)]))) (by simp)).upd (p := o) (o := .ins (CS K) d (putF ("frame" : Str) (.int ((n + 2 : Nat) : Int)) (List.zip ["index", "request", "sequence", "tag"] [.int (n : Int), rv, .int (n : Int), .int (n : Int)]))) (by simp)
    have ks := ks.upd (p := o) (o := .ins (CS K) d (List.zip ((["index", "request", "sequence", "tag", "frame"] : List Str) ++ [("rung" : Str)]) ([.int (n : Int), rv, .int (n : Int), .int (n : Int), .int ((n + 2 : Nat) : Int)] ++ [.int 0]))) (by simp)
    have nt : NoT [o] H := fun b hb => by
      rw [List.mem_singleton.mp hb, ho]
      exact ⟨fun _ z => (nomatch z), fun _ _ z => (nomatch z)⟩
    exact k _ ⟨⟨rv, upd_same, Rb.Dp.ts (ks.ts nt) _ _ r.nl hv⟩, ks _ _ hd (by simp [nod.symm])⟩ fun c u e n => ks c u e (by simp [n])
theorem ok_ends (T : Top K mg) : FnC P w K mg base CX0 2 (He.ma K (He.ga K "Driver") "_end_sending") (spEnds K) := by
  have G_Clients_end_sending := ok_endS (P := P) (w := w) (base := base) T
  refine fnc0 T.d_Driver__end_sending sc_Driver__end_sending (fun _ _ _ _ _ _ us hl => match us, hl with | [_, _, _], _ => rfl) (fun vs H Q E h => ?_) (fun cdv A outer s H vs Q E hr h => ?_)
  · obtain ⟨mm, X, n, s, e, rfl, _⟩ := h
    rfl
  · obtain ⟨mm, X, n, sx, e, rfl, h, hk, hs, hsn, hsk, he, hl, k⟩ := h
    have hu := hu_of hr
    have hsm := List.mem_of_getElem? hs
    obtain ⟨rv, ej, hrv⟩ := (h.ss sx hsm).oj
    refine ⟨_, (pss_cons (ps_set (i := 3) sc_Driver__end_sending.nd rfl (Or.inl rfl) (pe_fld (pv 0) rfl))
    (pss_cons (ps_fld (pv 3) (pe_fld (pv 0) rfl) rfl)
    (pss_cons (ps_dput hu (pe_fld (pv 0) rfl) (pe_fld (pv 3) rfl) (pv 3) rfl)
    (pss_cons (ps_fldaug (pv 0) pe_int in_add)
    (pss_cons (ps_set (i := 4) sc_Driver__end_sending.nd rfl (Or.inl rfl) (pe_tup (pa_cons (pe_fld (pv 0) rfl) (pa_cons (pe_fld (pv 3) rfl) (pa_cons (pe_fld (pv 3) rfl) (pa_cons (pe_fld (pv 3) rfl) pa_nil))))))
    (pss_one (ps_expr (pe_m G_Clients_end_sending hr (by decide) T.cl_Clients T.me_Clients_end_sending pass0 (pe_fld (pv 0) rfl) (pa_cons (pe_fld (pv 3) rfl) (pa_cons (pv 4) pa_nil)))))))))), ?_⟩
    refine ⟨_, rfl, X.o, CR K, X.d, _, _, rfl, h.oo, T.cl_Driver, T.na_Driver__sending, lr_sn, ?_⟩
    rw [show (X.f mm).sn = .ref sx.j from hsn]
    refine ⟨_, rfl, X.o, CR K, X.d, _, _, rfl, h.oo, T.cl_Driver, T.na_Driver__made, lr_md, _, rfl, sx.j, CS K, sx.d, _, rfl, ej, T.cl_Sending, T.na_Sending_rung, (by show 6 < 1000; decide), ?_⟩
    rw [ps_ru]
    have nso : X.o ≠ sx.j := tg_ne h.oo ej (by simp [tg, rFld_len, sFld_len])
    have nsu : X.uw ≠ sx.j := tg_ne h.ouw ej (by simp [tg, sFld_len])
    have nou : X.o ≠ X.uw := tg_ne h.oo h.ouw (by simp [tg, rFld_len])
    refine ⟨_, rfl, _, rfl, X.o, CR K, X.d, _, _, rfl, (upd_ne nso).trans h.oo, T.cl_Driver, T.na_Driver__under_way, lr_uw, _, rfl, sx.j, CS K, sx.d, _, _, rfl, upd_same, T.cl_Sending, T.na_Sending_tag, ls_tg, X.uw, _, rfl, DPut.k (k := (Sum.inl (sx.k : Int) : Key)) ((upd_ne nsu).trans h.ouw) ?_, ?_⟩
    · rw [uwK_len, sizeLine_eq]
      have := hk.n
      have : (X.ss.take X.n).length ≤ 3 := this
      omega
    refine ⟨_, rfl, X.o, CR K, X.d, _, _, rfl, (upd_ne nou).trans ((upd_ne nso).trans h.oo), T.cl_Driver, T.na_Driver__sequence, lr_sq, _, _, rfl, rfl, _, _, (upd_ne nou).trans ((upd_ne nso).trans h.oo), (by show 23 < 1000; decide), ?_⟩
    rw [pr_sq]
    have ks : KS [sx.j, X.uw, X.o] H _ := (((KS.refl (S := [sx.j, X.uw, X.o]) (H := H)).upd (p := sx.j) (o := .ins (CS K) sx.d (sFld sx.k rv X.md)) (by simp)).upd (p := X.uw) (o := .dK (putK (uwK (X.ss.take X.n)) (Sum.inl (sx.k : Int)) (.ref sx.j))) (by simp)).upd (p := X.o) (o := .ins (CR K) X.d (rFld { X.f mm with sq := X.sq + 1 })) (by simp)
    obtain ⟨h1, ha1, ks1⟩ := h.rung hk hs hsk hrv ks upd_same ((upd_ne nou.symm).trans upd_same) ((upd_ne nso.symm).trans ((upd_ne nsu.symm).trans upd_same))
    have k1 := k.step (P' := fun X' => X'.dat = { X.dat with ss := X.dat.ss.set X.n { sx.dat with ru := X.md }, n := X.n + 1, sq := X.sq + 1, es := X.dat.es.set sx.k { e.dat with sd := e.sd + 1 } }) h (X1 := { X with ss := X.ss.set X.n { sx with ru := X.md }, n := X.n + 1, sq := X.sq + 1 }) rfl ks1 (fun b hb => .inl (ha1 b hb)) fun _ z => z
    have oj := (h1.ss { sx with ru := X.md } (List.mem_of_getElem? (List.getElem?_set_self (List.getElem?_eq_some_iff.mp hs).1))).oj
    obtain ⟨rv2, ej1, _⟩ := oj
    refine ⟨_, rfl, X.o, CR K, X.d, _, _, rfl, h1.oo, T.cl_Driver, T.na_Driver_generation, lr_gen, _, rfl, sx.j, CS K, sx.d, _, _, rfl, ej1, T.cl_Sending, T.na_Sending_sequence, ls_sq, _, rfl, sx.j, CS K, sx.d, _, _, rfl, ej1, T.cl_Sending, T.na_Sending_tag, ls_tg, _, rfl, sx.j, CS K, sx.d, _, _, rfl, ej1, T.cl_Sending, T.na_Sending_frame, ls_fr, (by show 4 ≤ sizeLine; decide), fun p fp => ?_⟩
    have s4 := Same.new (o := HO.tup [V.int 0, .int (sx.k : Int), .int (sx.k : Int), .int ((sx.k + 2 : Nat) : Int)]) (Same.refl _) fp
    have h4 := h1.same s4
    have k4 := k1.same h1 s4
    refine ⟨_, rfl, X.o, CR K, X.d, _, _, rfl, h4.oo, T.cl_Driver, T.na_Driver__clients, lr_cl, X.cl, X.cd, _, rfl, h4.co.oc, zn (by decide +kernel), _, rfl, sx.j, CS K, sx.d, _, _, rfl, s4 _ _ ej1, T.cl_Sending, T.na_Sending_index, ls_ix, _, rfl, mm, { X with ss := X.ss.set X.n { sx with ru := X.md }, n := X.n + 1, sq := X.sq + 1 }, sx.k, e, _, rfl, h4, he, hl, fun H' hD ks' => ?_⟩
    refine k4 _ H' hD rfl (ks'.mono fun b hb => ?_) (fun b hb => .inl (DrvAt.err_all (X := { X with ss := X.ss.set X.n { sx with ru := X.md }, n := X.n + 1, sq := X.sq + 1 }) (x' := { e with sd := e.sd + 1 }) he rfl rfl b hb)) ?_
    · rw [List.mem_singleton.mp hb]
      exact DV.in_e (X := { X with ss := X.ss.set X.n { sx with ru := X.md }, n := X.n + 1, sq := X.sq + 1 }) (List.mem_of_getElem? he) (by simp [EX.all])
    · show DV.dat _ = _
      unfold DV.dat
      simp only [map_set']
      rfl
end
end Rb
namespace Rb
open PySem PySem.Spec PyProof.Rows L2
theorem DrvAt.nls {K : PySem.W.Frag} {H : Hp} {mm : Addr} {X : DV} (h : DrvAt K H mm X) : (X.el ≠ X.un ∧ X.el ≠ X.fr ∧ X.el ≠ X.le ∧ X.el ≠ X.re) ∧ (X.un ≠ X.fr ∧ X.un ≠ X.le ∧ X.un ≠ X.re) ∧ (X.fr ≠ X.le ∧ X.fr ≠ X.re) ∧ X.le ≠ X.re := by
  have nl := h.nl
  simp only [List.nodup_cons, List.mem_cons, List.not_mem_nil, or_false, not_or, List.nodup_nil, and_true, not_false_eq_true] at nl
  exact nl
/-- a list of the driver changes -/
theorem DrvAt.lst {K : PySem.W.Frag} {H : Hp} {mm a : Addr} {X : DV} {ys xs : List V} (h : DrvAt K H mm X) (ea : H a = some (.lst ys)) (nel : a ≠ X.el) {unsent free : List Int} {left res : List PyData} (hun : upd H a (.lst xs) X.un = some (.lst (unsent.map .int))) (hfr : upd H a (.lst xs) X.fr = some (.lst (free.map .int)))
    (hle : LstAt K (upd H a (.lst xs)) X.le left) (hre : LstAt K (upd H a (.lst xs)) X.re res) : DrvAt K (upd H a (.lst xs)) mm { X with unsent := unsent, free := free, left := left, res := res } := by
  have ks : KS [a] H (upd H a (.lst xs)) := KS.refl.upd (by simp)
  have m : Mv H X.el [a] := fun b hb => by
    rw [List.mem_singleton.mp hb]
    exact ⟨nel, _, ea, .inl rfl⟩
  have no : ∀ {b : Addr} {o : HO}, H b = some o → tg o ≠ 2 → b ∉ [a] := fun e t => not1 ea e t
  have co := h.co.keep ks m
  have mt := h.mt.keep ks m
  refine ⟨ks _ _ h.oo (no h.oo (by simp [tg, rFld_len])), ⟨co.od, co.oc, co.ocd, co.oel⟩, ⟨mt.oth, mt.obh⟩, fun y hy => ?_, fun y hy => ?_, hun, ks _ _ h.ouw (no h.ouw (by simp [tg])), hfr, hle, hre, h.nl, h.ne, h.ns⟩
  · obtain ⟨rv, av, st, sx, e, _⟩ := (h.es y hy).oj
    exact (h.es y hy).mv ks m (no e (by simp [tg, eFld_len]))
  · obtain ⟨rv, e, _⟩ := (h.ss y hy).oj
    exact (h.ss y hy).mv ks m (no e (by simp [tg, sFld_len]))
theorem LstAt.at1 {K : PySem.W.Frag} {H : Hp} {a b : Addr} {ds : List PyData} {xs ys : List V} (h : LstAt K H b ds) (ea : H a = some (.lst ys)) (n : b ≠ a) : LstAt K (upd H a (.lst xs)) b ds :=
  h.ks (S := [a]) (KS.refl.upd (by simp)) (fun c hc => by rw [List.mem_singleton.mp hc, ea]; exact ⟨fun _ z => (nomatch z), fun _ _ z => (nomatch z)⟩) (by simp [n])
theorem DrvAt.toUn {K : PySem.W.Frag} {H : Hp} {mm : Addr} {X : DV} (h : DrvAt K H mm X) {l : List Int} {xs : List V} (e : xs = l.map .int) : DrvAt K (upd H X.un (.lst xs)) mm { X with unsent := l } := by
  obtain ⟨⟨a1, a2, a3, a4⟩, ⟨b1, b2, b3⟩, ⟨c1, c2⟩, d1⟩ := h.nls
  subst e
  exact h.lst h.oun a1.symm upd_same ((upd_ne b1.symm).trans h.ofr) (h.ole.at1 h.oun b2.symm) (h.ore.at1 h.oun b3.symm)
theorem DrvAt.toFr {K : PySem.W.Frag} {H : Hp} {mm : Addr} {X : DV} (h : DrvAt K H mm X) {l : List Int} {xs : List V} (e : xs = l.map .int) : DrvAt K (upd H X.fr (.lst xs)) mm { X with free := l } := by
  obtain ⟨⟨a1, a2, a3, a4⟩, ⟨b1, b2, b3⟩, ⟨c1, c2⟩, d1⟩ := h.nls
  subst e
  exact h.lst h.ofr a2.symm ((upd_ne b1).trans h.oun) upd_same (h.ole.at1 h.ofr c1.symm) (h.ore.at1 h.ofr c2.symm)
theorem DrvAt.toLe {K : PySem.W.Frag} {H : Hp} {mm : Addr} {X : DV} (h : DrvAt K H mm X) {xs : List V} {ds : List PyData} (hd : DpAll K H xs ds) (nl : noLs ds = true) : DrvAt K (upd H X.le (.lst xs)) mm { X with left := ds } := by
  obtain ⟨⟨a1, a2, a3, a4⟩, ⟨b1, b2, b3⟩, ⟨c1, c2⟩, d1⟩ := h.nls
  obtain ⟨ys, e, _⟩ := id h.ole.e
  exact h.lst e a3.symm ((upd_ne b2).trans h.oun) ((upd_ne c1).trans h.ofr) ⟨⟨xs, upd_same, Rb.DpAll.ts (TSame.lst e) _ _ nl hd⟩, nl⟩ (h.ore.at1 e d1.symm)
theorem DrvAt.toRe {K : PySem.W.Frag} {H : Hp} {mm : Addr} {X : DV} (h : DrvAt K H mm X) {xs : List V} {ds : List PyData} (hd : DpAll K H xs ds) (nl : noLs ds = true) : DrvAt K (upd H X.re (.lst xs)) mm { X with res := ds } := by
  obtain ⟨⟨a1, a2, a3, a4⟩, ⟨b1, b2, b3⟩, ⟨c1, c2⟩, d1⟩ := h.nls
  obtain ⟨ys, e, _⟩ := id h.ore.e
  exact h.lst e a4.symm ((upd_ne b3).trans h.oun) ((upd_ne c2).trans h.ofr) (h.ole.at1 e d1) ⟨⟨xs, upd_same, Rb.DpAll.ts (TSame.lst e) _ _ nl hd⟩, nl⟩
/-- a new sending -/
theorem DrvAt.addS {K : PySem.W.Frag} {H H' : Hp} {mm : Addr} {X : DV} {s : SX} (h : DrvAt K H mm X) (sm : Same H H') (hs : SndAt K H' s) (f : H s.j = none) (hn : X.n ≤ X.ss.length) : DrvAt K H' mm { X with ss := X.ss ++ [s] } := by
  have h1 := h.same sm
  refine ⟨h1.oo, ⟨h1.co.od, h1.co.oc, h1.co.ocd, h1.co.oel⟩, ⟨h1.mt.oth, h1.mt.obh⟩, h1.es, fun y hy => ?_, h1.oun, ?_, h1.ofr, h1.ole, h1.ore, h1.nl, h1.ne, ?_⟩
  · rcases List.mem_append.mp hy with z | z
    · exact h1.ss y z
    · rw [List.mem_singleton.mp z]
      exact hs
  · show H' X.uw = some (.dK (uwK ((X.ss ++ [s]).take X.n)))
    rw [List.take_append_of_le_length hn]
    exact h1.ouw
  · show ((X.ss ++ [s]).map fun x => x.j).Nodup
    rw [List.map_append, List.nodup_append]
    refine ⟨h.ns, by simp, fun a ha b hb z => ?_⟩
    obtain ⟨y, hy, rfl⟩ := List.mem_map.mp ha
    simp only [List.map_cons, List.map_nil, List.mem_cons, List.not_mem_nil, or_false] at hb
    obtain ⟨rv, e, _⟩ := (h.ss y hy).oj
    rw [z, hb, f] at e
    cases e
theorem uw_in {ws : List SX} (hk : ws.map (·.k) = List.range ws.length) (j : Nat) : (valV (uwK ws) (Sum.inl (j : Int))).isSome = decide (j < ws.length) := by
  have nd : (ws.map (·.k)).Nodup := by
    rw [hk]
    exact List.nodup_range
  by_cases c : j < ws.length
  · have ej : ws[j]? = some ws[j] := List.getElem?_eq_getElem c
    have ek : ws[j].k = j := by
      have := congrArg (·[j]?) hk
      simp only [List.getElem?_map, ej, Option.map_some] at this
      rw [List.getElem?_range c] at this
      exact Option.some.inj this
    have := uw_val nd (List.getElem_mem c)
    rw [ek] at this
    rw [this, decide_eq_true c]
    rfl
  · rw [decide_eq_false c]
    cases e : valV (uwK ws) (Sum.inl (j : Int)) with
    | none => rfl
    | some v =>
      have := valV_in e
      rw [uwK_keys] at this
      obtain ⟨a, ha, hb⟩ := List.mem_map.mp this
      obtain ⟨x, hx, rfl⟩ := List.mem_map.mp ha
      have hb : (x.k : Int) = (j : Int) := Sum.inl.inj hb
      have : x.k ∈ ws.map (·.k) := List.mem_map.mpr ⟨x, hx, rfl⟩
      rw [hk] at this
      have := List.mem_range.mp this
      omega
def MemC (K : PySem.W.Frag) (H : Hp) (mm : Addr) (c : Int) : Prop := ∃ md mf, H mm = some (.ins (CM K) md mf) ∧ mf.lookup ("count" : Str) = some (.int c) ∧ mf.length = 6
theorem MemC.ks {K : PySem.W.Frag} {H H' : Hp} {mm : Addr} {c : Int} {S : List Addr} (h : MemC K H mm c) (ks : KS S H H') (n : mm ∉ S) : MemC K H' mm c := by
  obtain ⟨md, mf, e, l, n6⟩ := h
  exact ⟨md, mf, ks _ _ e n, l, n6⟩
theorem MemC.upd {K : PySem.W.Frag} {H : Hp} {mm a : Addr} {c : Int} {o u : HO} (h : MemC K H mm c) (e : H a = some o) (t : tg o ≠ 106) : MemC K (L2.upd H a u) mm c := by
  obtain ⟨md, mf, em, l, n6⟩ := h
  exact ⟨md, mf, (upd_ne (tg_ne em e (by rw [tg_ins, n6]; exact fun z => t z.symm))).trans em, l, n6⟩
def spBegS (K : PySem.W.Frag) : Sp := fun vs H Q _ => ∃ (mm : Addr) (X : DV) (e : EX) (c : Int) (ut ft : List Int), vs = [.ref X.o] ∧ DrvAt K H mm X ∧ X.dv = 0 ∧ X.Wk ∧ MemC K H mm c ∧ X.ss.length = X.n ∧ X.n ≤ 3 ∧ X.sq = (X.n : Int) ∧ X.unsent = (X.n : Int) :: ut ∧ X.free = ((X.n + 2 : Nat) : Int) :: ft ∧ X.unsent.length ≤ 60 ∧ X.free.length ≤ 60 ∧ X.es[X.n]? = some e ∧ e.fi = none ∧ e.rq.Ok ∧
  DEnd K H mm X (fun X' => X'.dat = { X.dat with unsent := ut, free := ft, ss := X.dat.ss ++ [⟨X.n, e.rq, 0⟩], es := X.dat.es.set X.n { e.dat with fi := some (c + 1) }, left := fillD (X.n + 2) e.rq.cs ++ handD X.n e.rq, res := [], th := .ends } ∧ ∃ s, X'.ss[X'.n]? = some s ∧ X'.sn = .ref s.j) (Q .non)
section
variable {P : Program} {w : World} {K : PySem.W.Frag} {mg : Str → Option Value} {base : Heap}
theorem ok_begS (T : Top K mg) : FnC P w K mg base CX0 7 (He.ma K (He.ga K "Driver") "_begin_sending") (spBegS K) := by
  have G_Clients_request_at := ok_reqAt (P := P) (w := w) (base := base) T
  have G_Sending___init__ := ok_snd_init (P := P) (w := w) (base := base) T
  have G_Clients_begin := ok_begin (P := P) (w := w) (base := base) T
  have G_fill_frame := ok_fill (P := P) (w := w) (base := base) T
  have G_Driver__first_contents := ok_fc (P := P) (w := w) (base := base) T
  have G_Driver__make := ok_make (P := P) (w := w) (base := base) T
  have G_hand_over := ok_hand (P := P) (w := w) (base := base) T
  refine fnc0 T.d_Driver__begin_sending sc_Driver__begin_sending (fun _ _ _ _ _ _ us hl => match us, hl with | [_], _ => rfl) (fun vs H Q E h => ?_) (fun cdv A outer s H vs Q E hr h => ?_)
  · obtain ⟨mm, X, e, c, ut, ft, rfl, _⟩ := h
    rfl
  · obtain ⟨mm, X, e, c, ut, ft, rfl, h, hd, hk, hc, hsl, hn3, hsq, hun, hfr, hul, hfl, he, hef, hok, k⟩ := h
    have hu := hu_of hr
    have hwl : X.ws.length = X.n := by
      show (X.ss.take X.n).length = X.n
      rw [List.length_take]
      omega
    refine ⟨_, (pss_cons (ps_set (i := 1) sc_Driver__begin_sending.nd rfl (Or.inl rfl) (pe_bm PySem.F.plainAttrs_list PySem.F.slot_list_pop PySem.F.type_list_pop mt_popAt (pe_fld (pv 0) rfl) (pa_cons pe_int pa_nil)))
    (pss_cons (ps_set (i := 2) sc_Driver__begin_sending.nd rfl (Or.inl rfl) (pe_m G_Clients_request_at hr (by decide) T.cl_Clients T.me_Clients_request_at pass0 (pe_fld (pv 0) rfl) (pa_cons (pv 1) pa_nil)))
    (pss_cons (ps_setLc (i := 4) (own := [("tag", 3)]) (g := gName 3) rfl sc_Driver__begin_sending.nd rfl rfl (sw_true rfl rfl rfl (by decide +kernel)) (pi_range1 (by rfl) T.b_range (pa_cons (pe_gc (by rfl) T.c_TAGS) pa_nil)) (blkOk_by (N := ["self", "index", "request", "tag", "tags", "frame", "filling"]) (sc := defScope s_Driver__begin_sending) (by decide +kernel)) (fun _ _ _ _ _ => (pg_name (i := 3) sc_Driver__begin_sending.nd rfl (Or.inl rfl))) (fun _ _ _ _ _ => pts_one (pt_cmp (pc_dnotin hu (pv 3) (pe_fldK (K := K) rfl (pv 0) rfl)))) (fun _ _ _ _ _ => (pv 3)))
    (pss_cons (ps_set (i := 3) sc_Driver__begin_sending.nd rfl (Or.inl rfl) (pe_ix ix_list (pv 4) pe_int (fun _ _ => rfl)))
    (pss_cons (ps_set (i := 5) sc_Driver__begin_sending.nd rfl (Or.inl rfl) (pe_bm PySem.F.plainAttrs_list PySem.F.slot_list_pop PySem.F.type_list_pop mt_popAt (pe_fld (pv 0) rfl) (pa_cons pe_int pa_nil)))
    (pss_cons (ps_fld (pv 0) (pe_k G_Sending___init__ hr (by decide) (by rfl) T.g_Sending T.mk_Sending pass0 (pa_cons (pv 1) (pa_cons (pv 2) (pa_cons (pe_fld (pv 0) rfl) (pa_cons (pv 3) (pa_cons (pv 5) pa_nil)))))) rfl)
    (pss_cons (ps_expr (pe_m G_Clients_begin hr (by decide) T.cl_Clients T.me_Clients_begin pass0 (pe_fld (pv 0) rfl) (pa_cons (pv 1) (pa_cons (pe_op op_add (pe_fld (pe_fld (pv 0) rfl) rfl) pe_int) pa_nil))))
    (pss_cons (ps_set (i := 6) sc_Driver__begin_sending.nd rfl (Or.inl rfl) (pe_f G_fill_frame hr (by decide) (by rfl) T.g_fill_frame pass0 (pa_cons (pe_fld (pv 0) rfl) (pa_cons (pv 5) (pa_cons (pe_m G_Driver__first_contents hr (by decide) T.cl_Driver T.me_Driver__first_contents pass0 (pv 0) (pa_cons (pv 2) pa_nil)) pa_nil)))))
    (pss_one (ps_expr (pe_m G_Driver__make hr (by decide) T.cl_Driver T.me_Driver__make pass0 (pv 0) (pa_cons (pe_op op_cat (pv 6) (pe_f G_hand_over hr (by decide) (by rfl) T.g_hand_over pass0 (pa_cons (pe_fld (pv 0) rfl) (pa_cons (pv 3) (pa_cons (pv 5) (pa_cons (pv 2) (pa_cons (pe_fld (pv 0) rfl) pa_nil))))))) (pa_cons (pe_bnd T.cl_Driver (T.bm_Driver__end_sending.b T.me_Driver__end_sending) (pv 0)) pa_nil))))))))))))), ?_⟩
    refine ⟨_, rfl, X.o, CR K, X.d, _, _, rfl, h.oo, T.cl_Driver, T.na_Driver__unsent, lr_un, .inl ⟨rfl, _, SqL.of h.oun⟩, X.un, _, ((0 : Nat) : Int), 0, .int (X.n : Int), rfl, rfl, h.oun, by decide, by decide, seq_n (by rw [hun]; show 0 < _; simp), (by rw [hun]; rfl), ?_⟩
    have h1 := h.toUn (l := ut) (xs := (X.unsent.map V.int).eraseIdx 0) (by rw [hun]; rfl)
    have hc1 := hc.upd (u := .lst ((X.unsent.map V.int).eraseIdx 0)) h.oun (by simp [tg])
    have k1 := k.step (P' := fun X' => X'.dat = { X.dat with unsent := ut, free := ft, ss := X.dat.ss ++ [⟨X.n, e.rq, 0⟩], es := X.dat.es.set X.n { e.dat with fi := some (c + 1) }, left := fillD (X.n + 2) e.rq.cs ++ handD X.n e.rq, res := [], th := .ends } ∧ ∃ s, X'.ss[X'.n]? = some s ∧ X'.sn = .ref s.j) h (X1 := { X with unsent := ut }) rfl (KS.refl.upd (p := X.un) (o := .lst ((X.unsent.map V.int).eraseIdx 0)) (by simp [DV.all])) (fun b hb => .inl hb) fun _ z => z
    generalize upd H X.un (.lst ((X.unsent.map V.int).eraseIdx 0)) = H1 at h1 hc1 k1 ⊢
    refine ⟨_, rfl, X.o, CR K, X.d, _, _, rfl, h1.oo, T.cl_Driver, T.na_Driver__clients, lr_cl, X.cl, X.cd, _, rfl, h1.co.oc, zn (by decide +kernel), _, rfl, mm, { X with unsent := ut }, X.n, e, rfl, h1, he, fun rv hrv => ?_⟩
    refine ⟨4, rfl, by decide, by decide, fun D hD => ?_⟩
    refine lc_range (n := 4) (fun i H2 => H2 D = some (.lst (((List.range i).filter fun j => decide (X.n ≤ j)).map fun j : Nat => V.int (j : Int))) ∧ Same H1 H2) ⟨upd_same, Same.new (Same.refl _) hD⟩ ?_ ?_
    · rintro i H2 hi ⟨eD, s2⟩
      refine ⟨rfl, ?_⟩
      refine ⟨_, rfl, _, rfl, X.o, CR K, X.d, _, _, rfl, s2 _ _ h1.oo, T.cl_Driver, T.na_Driver__under_way, lr_uw, X.uw, _, rfl, DGet.k (k := (Sum.inl ((0 : Int) + i) : Key)) (s2 _ _ h1.ouw), _, rfl, ?_⟩
      rw [Int.zero_add]
      have e := uw_in hk.k i
      rw [hwl] at e
      have e : (valV (uwK (X.ss.take X.n)) (Sum.inl (i : Int))).isSome = decide (i < X.n) := e
      show if (!(valV (uwK (X.ss.take X.n)) (Sum.inl (i : Int))).isSome) = true then _ else _
      rw [e, List.range_succ, List.filter_append, List.map_append]
      by_cases c : i < X.n
      · refine iteN (by simp [c]) ?_
        rw [List.filter_cons_of_neg (by simp; omega), List.filter_nil, List.map_nil, List.append_nil]
        exact ⟨eD, s2⟩
      · refine iteY (by simp; omega) ?_
        rw [List.filter_cons_of_pos (by simp; omega), List.filter_nil]
        refine ⟨_, rfl, _, eD, ?_, upd_same, Same.put s2 hD⟩
        rw [List.length_map, sizeLine_eq]
        have := List.length_filter_le (fun j => decide (X.n ≤ j)) (List.range i)
        rw [List.length_range] at this
        omega
    rintro H2 ⟨eD, s2⟩
    have e0 : (((List.range 4).filter fun j => decide (X.n ≤ j)).map fun j : Nat => V.int (j : Int))[0]? = some (.int (X.n : Int)) := by
      rcases (by omega : X.n = 0 ∨ X.n = 1 ∨ X.n = 2 ∨ X.n = 3) with q | q | q | q <;> rw [q] <;> rfl
    refine ⟨_, rfl, D, _, ((0 : Nat) : Int), .int (X.n : Int), rfl, rfl, SqL.of eD, atI_n e0, ?_⟩
    have h2 := h1.same s2
    have k2 := k1.same h1 s2
    have hc2 := hc1.ks (S := []) (KS.of s2) (fun z => nomatch z)
    have hrv2 := hrv.same s2
    refine ⟨_, rfl, X.o, CR K, X.d, _, _, rfl, h2.oo, T.cl_Driver, T.na_Driver__free, lr_fr, .inl ⟨rfl, _, SqL.of h2.ofr⟩, X.fr, _, ((0 : Nat) : Int), 0, .int ((X.n + 2 : Nat) : Int), rfl, rfl, h2.ofr, by decide, by decide, seq_n (by show 0 < (X.free.map V.int).length; rw [hfr]; simp), (by show (X.free.map V.int)[0]? = _; rw [hfr]; rfl), ?_⟩
    have h3 := h2.toFr (l := ft) (xs := (X.free.map V.int).eraseIdx 0) (by rw [hfr]; rfl)
    have hc3 := hc2.upd (u := .lst ((X.free.map V.int).eraseIdx 0)) h2.ofr (by simp [tg])
    have k3 := k2.step (P' := fun X' => X'.dat = { X.dat with unsent := ut, free := ft, ss := X.dat.ss ++ [⟨X.n, e.rq, 0⟩], es := X.dat.es.set X.n { e.dat with fi := some (c + 1) }, left := fillD (X.n + 2) e.rq.cs ++ handD X.n e.rq, res := [], th := .ends } ∧ ∃ s, X'.ss[X'.n]? = some s ∧ X'.sn = .ref s.j) h2 (X1 := { X with unsent := ut, free := ft }) rfl (KS.refl.upd (p := X.fr) (o := .lst ((X.free.map V.int).eraseIdx 0)) (by simp [DV.all])) (fun b hb => .inl hb) fun _ z => z
    have hrv3 : Dp K (upd H2 X.fr (.lst ((X.free.map V.int).eraseIdx 0))) rv e.rq.d := Rb.Dp.ts (TSame.lst h2.ofr) _ _ e.rq.nl hrv2
    have eD3 : True := trivial
    generalize upd H2 X.fr (.lst ((X.free.map V.int).eraseIdx 0)) = H3 at h3 hc3 k3 hrv3 ⊢
    refine ⟨_, rfl, _, rfl, _, rfl, X.o, CR K, X.d, _, _, rfl, h3.oo, T.cl_Driver, T.na_Driver__sequence, lr_sq, _, rfl, _, rfl, fun x dx hx hdx nex => ?_⟩
    have sN : Same H3 (upd (upd H3 dx (.own x)) x (.ins (He.ga K "Sending") dx [])) := Same.new (Same.new (Same.refl _) hdx) hx
    refine ⟨x, dx, X.n, rv, e.rq, (by show [_, V.int (X.n : Int), rv, V.int X.sq, V.int (X.n : Int), V.int ((X.n + 2 : Nat) : Int)] = _; rw [hsq]), upd_same, (by rw [upd_ne nex, upd_same]), hrv3.same sN, fun H4 hj kp => ⟨rfl, ?_⟩⟩
    have s4 : Same H3 H4 := fun c u e => kp c u (sN c u e) (ne_of_none e hx)
    have fx3 : H3 x = none := hx
    have h4 : DrvAt K H4 mm { X with unsent := ut, free := ft, ss := X.ss ++ [(⟨x, dx, X.n, e.rq, 0⟩ : SX)] } := h3.addS s4 hj fx3 (by show X.n ≤ X.ss.length; omega)
    have k4 := k3.step (P' := fun X' => X'.dat = { X.dat with unsent := ut, free := ft, ss := X.dat.ss ++ [⟨X.n, e.rq, 0⟩], es := X.dat.es.set X.n { e.dat with fi := some (c + 1) }, left := fillD (X.n + 2) e.rq.cs ++ handD X.n e.rq, res := [], th := .ends } ∧ ∃ s, X'.ss[X'.n]? = some s ∧ X'.sn = .ref s.j) h3 (X1 := { X with unsent := ut, free := ft, ss := X.ss ++ [(⟨x, dx, X.n, e.rq, 0⟩ : SX)] }) rfl (KS.of s4) (fun b hb => by
      have hb : b ∈ [X.o, X.d, X.cl, X.cd, X.el, X.un, X.uw, X.fr, X.le, X.re, X.q] ++ (X.bh.toList ++ (X.es.flatMap EX.all ++ (X.ss ++ [(⟨x, dx, X.n, e.rq, 0⟩ : SX)]).flatMap SX.all)) := hb
      rw [List.flatMap_append, ← List.append_assoc, ← List.append_assoc, ← List.append_assoc] at hb
      rcases List.mem_append.mp hb with z | z
      · rw [List.append_assoc, List.append_assoc] at z
        exact .inl z
      · simp only [List.flatMap_cons, List.flatMap_nil, SX.all, List.append_nil, List.mem_cons, List.not_mem_nil, or_false] at z
        rcases z with rfl | rfl
        · exact .inr fx3
        · exact .inr hdx) fun _ z => z
    have hc4 := hc3.ks (S := []) (KS.of s4) (fun z => nomatch z)
    have hrv4 := hrv3.same s4
    refine ⟨_, rfl, X.o, CR K, X.d, _, rfl, h4.oo, T.cl_Driver, T.na_Driver__sending, (by show 23 < 1000; decide), ?_⟩
    rw [pr_sn]
    obtain ⟨h5, ks5, k5⟩ := h4.fld (bk := X.bk) (wr := X.wr) (sq := X.sq) (pt := X.pt) (md := X.md) (tk := X.tk) (rg := X.rg) (sn := .ref x) (fs := { (DV.f { X with unsent := ut, free := ft, ss := X.ss ++ [(⟨x, dx, X.n, e.rq, 0⟩ : SX)] } mm) with sn := .ref x }) rfl
    have k5 := k5 (P' := fun X' => X'.dat = { X.dat with unsent := ut, free := ft, ss := X.dat.ss ++ [⟨X.n, e.rq, 0⟩], es := X.dat.es.set X.n { e.dat with fi := some (c + 1) }, left := fillD (X.n + 2) e.rq.cs ++ handD X.n e.rq, res := [], th := .ends } ∧ ∃ s, X'.ss[X'.n]? = some s ∧ X'.sn = .ref s.j) k4 fun _ z => z
    have hc5 := hc4.upd (u := .ins (CR K) X.d (rFld { (DV.f { X with unsent := ut, free := ft, ss := X.ss ++ [(⟨x, dx, X.n, e.rq, 0⟩ : SX)] } mm) with sn := .ref x })) h4.oo (by simp [tg, rFld_len])
    have hrv5 := Rb.Dp.ts (ks5.ts h4.mv1.noT) _ _ e.rq.nl hrv4
    have hc5' : MemC K (upd H4 X.o (.ins (CR K) X.d (rFld { (DV.f { X with unsent := ut, free := ft, ss := X.ss ++ [(⟨x, dx, X.n, e.rq, 0⟩ : SX)] } mm) with sn := .ref x }))) mm c := hc5
    obtain ⟨md, mf, em, lm, _⟩ := hc5'
    refine ⟨_, rfl, X.o, CR K, X.d, _, _, rfl, h5.oo, T.cl_Driver, T.na_Driver__clients, lr_cl, X.cl, X.cd, _, rfl, h5.co.oc, zn (by decide +kernel), _, rfl, _, rfl, X.o, CR K, X.d, _, _, rfl, h5.oo, T.cl_Driver, T.na_Driver__memory, lr_mm, mm, CM K, md, mf, _, rfl, em, T.cl_Memory, T.na_Memory_count, lm, _, _, rfl, rfl, mm, { X with unsent := ut, free := ft, ss := X.ss ++ [(⟨x, dx, X.n, e.rq, 0⟩ : SX)], sn := .ref x }, X.n, e, c + 1, rfl, h5, he, hef, fun H6 h6 ks6 => ?_⟩
    have k6 := k5.step (P' := fun X' => X'.dat = { X.dat with unsent := ut, free := ft, ss := X.dat.ss ++ [⟨X.n, e.rq, 0⟩], es := X.dat.es.set X.n { e.dat with fi := some (c + 1) }, left := fillD (X.n + 2) e.rq.cs ++ handD X.n e.rq, res := [], th := .ends } ∧ ∃ s, X'.ss[X'.n]? = some s ∧ X'.sn = .ref s.j) h5 (X1 := { X with unsent := ut, free := ft, ss := X.ss ++ [(⟨x, dx, X.n, e.rq, 0⟩ : SX)], sn := .ref x, es := X.es.set X.n { e with fi := some (c + 1) } }) rfl (ks6.mono fun b hb => by
      rw [List.mem_singleton.mp hb]
      exact DV.in_e (X := { X with unsent := ut, free := ft, ss := X.ss ++ [(⟨x, dx, X.n, e.rq, 0⟩ : SX)], sn := .ref x }) (List.mem_of_getElem? he) (by simp [EX.all])) (fun b hb => .inl (DrvAt.err_all (X := { X with unsent := ut, free := ft, ss := X.ss ++ [(⟨x, dx, X.n, e.rq, 0⟩ : SX)], sn := .ref x }) (x' := { e with fi := some (c + 1) }) he rfl rfl b hb)) fun _ z => z
    have hrv6 := Rb.Dp.ts (ks6.ts (h5.mvE (h5.errAt he)).noT) _ _ e.rq.nl hrv5
    refine ⟨_, rfl, X.o, CR K, X.d, _, _, rfl, h6.oo, T.cl_Driver, T.na_Driver__device, lr_dv, _, rfl, _, rfl, X.o, X.d, _, rfl, h6.oo, zn (by decide +kernel), _, rfl, mm, { X with unsent := ut, free := ft, ss := X.ss ++ [(⟨x, dx, X.n, e.rq, 0⟩ : SX)], sn := .ref x, es := X.es.set X.n { e with fi := some (c + 1) } }, rv, e.rq, rfl, h6, hrv6, hok, fun cv H7 s7 hcv => ?_⟩
    refine ⟨X.n + 2, cv, e.rq.cs, (by show [V.int X.dv, V.int ((X.n + 2 : Nat) : Int), cv] = _; rw [hd]), hcv, e.rq.cs_nl, (by rw [RQ.cs_len hok]; decide), fun p8 xs8 H8 f8 e8 d8 s8 => ?_⟩
    have s68 := s7.trans s8
    have h8 := h6.same s68
    have k8 := k6.same h6 s68
    have hrv8 := hrv6.same s68
    refine ⟨_, rfl, X.o, X.d, _, rfl, h8.oo, zn (by decide +kernel), _, rfl, ?_⟩
    refine ⟨_, rfl, X.o, CR K, X.d, _, _, rfl, h8.oo, T.cl_Driver, T.na_Driver__device, lr_dv, _, rfl, _, rfl, _, rfl, _, rfl, X.o, CR K, X.d, _, _, rfl, h8.oo, T.cl_Driver, T.na_Driver__sequence, lr_sq, X.n, rv, e.rq, (by show [V.int X.dv, V.int (X.n : Int), V.int ((X.n + 2 : Nat) : Int), rv, V.int X.sq] = _; rw [hd, hsq]), by omega, hrv8, hok, fun p9 xs9 H9 f9 e9 d9 s9 => ?_⟩
    refine cat_new (s9 _ _ e8) (d8.same s9) e9 d9 (Same.refl _) ?_ (fun p xs H10 f10 e10 d10 s10 => ?_)
    · rw [Rb.DpAll.len d8, Rb.DpAll.len d9]
      unfold fillD handD
      rw [List.length_map, List.length_range, RQ.cs_len hok]
      show 4 + 3 ≤ 4000
      decide
    have s810 := s9.trans s10
    refine ⟨_, rfl, X.o, X.d, _, rfl, s810 _ _ h8.oo, zn (by decide +kernel), fun q fq => ?_⟩
    have s11 := Same.new (o := HO.met (He.ma K (He.ga K "Driver") "_end_sending") X.o) (Same.refl _) fq
    dsimp only [tNil, List.append_nil]
    refine ⟨mm, p, q, { X with unsent := ut, free := ft, ss := X.ss ++ [(⟨x, dx, X.n, e.rq, 0⟩ : SX)], sn := .ref x, es := X.es.set X.n { e with fi := some (c + 1) } }, .ends, fillD (X.n + 2) e.rq.cs ++ handD X.n e.rq, xs, rfl, h8.same (s810.trans s11), s11 _ _ e10, d10.same s11, ?_, upd_same, fun le re H' hm ks fl fr => k8.make h8 (s810.trans s11) (s810.free fq) hm ks fl fr ⟨?_, ⟨x, dx, X.n, e.rq, 0⟩, ?_, rfl⟩⟩
    · rw [noLs_app]
      have a1 := fill_nl (f := X.n + 2) e.rq.cs_nl e.rq.cs.length
      have a2 : noLs (handD X.n e.rq) = true := rfl
      show (noLs ((List.range e.rq.cs.length).map (fillR (X.n + 2) e.rq.cs)) && _) = true
      rw [a1, a2]
      rfl
    · show DV.dat _ = _
      unfold DV.dat
      simp only [map_set', List.map_append]
      rfl
    · show (X.ss ++ [(⟨x, dx, X.n, e.rq, 0⟩ : SX)])[X.n]? = _
      rw [List.getElem?_append_right (by omega), hsl, Nat.sub_self]
      rfl
end
end Rb
namespace Rb
open PySem PySem.Spec PyProof.Rows L2
def SnOk (X : DV) : Prop := X.th = .ends → X.left ≠ [] → ∃ s, X.ss[X.n]? = some s ∧ X.sn = .ref s.j
/-- a driver further on -/
def CEnd (K : PySem.W.Frag) (H : Hp) (mm : Addr) (X : DV) (R : DV → Hp → Prop) : Prop :=
  ∀ X' H', DrvAt K H' mm X' → X'.o = X.o → KS X.all H H' → (∀ b ∈ X'.all, b ∈ X.all ∨ H b = none) → R X' H'
theorem CEnd.same {K : PySem.W.Frag} {H H1 : Hp} {mm : Addr} {X : DV} {R : DV → Hp → Prop} (d : CEnd K H mm X R) (s : Same H H1) : CEnd K H1 mm X R := fun X' H' a b c e => d X' H' a b ((KS.of s).trans c) fun x hx => (e x hx).imp id fun z => s.free z
def BegOk (X : DV) (e : EX) (ut ft : List Int) : Prop := X.ss.length = X.n ∧ X.n ≤ 3 ∧ X.sq = (X.n : Int) ∧ X.unsent = (X.n : Int) :: ut ∧ X.free = ((X.n + 2 : Nat) : Int) :: ft ∧ X.unsent.length ≤ 60 ∧ X.free.length ≤ 60 ∧ X.es[X.n]? = some e ∧ e.fi = none ∧ e.rq.Ok
def begD (X : DV) (e : EX) (ut ft : List Int) (c : Int) : DD := { X.dat with unsent := ut, free := ft, ss := X.dat.ss ++ [⟨X.n, e.rq, 0⟩], es := X.dat.es.set X.n { e.dat with fi := some (c + 1) }, left := fillD (X.n + 2) e.rq.cs ++ handD X.n e.rq, res := [], th := .ends }
def rstDD (X : DV) : DD := { X.dat with wr := false, bh := true, left := backD (resetPs X), res := [], th := .tick }
def intDD (X : DV) : DD := { X.dat with left := [intrD], res := [], th := .intr }
/-- what a driver that has nothing left may choose -/
inductive ChP (X : DV) (c : Int) : (DD → Prop) → Prop
  | broken (h : X.bk = true) : ChP X c fun D => D = X.dat
  | reset (hb : X.bk = false) (h : mustB X = true) : ChP X c fun D => D = rstDD X
  | send (hb : X.bk = false) (hm : mustB X = false) (h : mayB X = true) {e : EX} {ut ft : List Int} (ok : BegOk X e ut ft) : ChP X c fun D => D = begD X e ut ft c
  | rest (hb : X.bk = false) (hm : mustB X = false) (hv : ∀ i l, X.unsent = i :: l → ∃ (j : Nat) (x : EX), i = (j : Int) ∧ X.es[j]? = some x) (h : mayB X = false) (hw : X.ws = []) : ChP X c fun D => D = X.dat
  | poll (hb : X.bk = false) (hm : mustB X = false) (hv : ∀ i l, X.unsent = i :: l → ∃ (j : Nat) (x : EX), i = (j : Int) ∧ X.es[j]? = some x) (h : mayB X = false) (hw : X.ws ≠ []) : ChP X c fun D => D = intDD X
def spCh (K : PySem.W.Frag) : Sp := fun vs H Q _ => ∃ (mm : Addr) (X : DV) (c : Int) (S : DD → Prop), vs = [.ref X.o] ∧ DrvAt K H mm X ∧ X.dv = 0 ∧ X.Wk ∧ X.left = [] ∧ MemC K H mm c ∧ ChP X c S ∧ CEnd K H mm X fun X' H' => S X'.dat → SnOk X' → Q .non H'
section
variable {P : Program} {w : World} {K : PySem.W.Frag} {mg : Str → Option Value} {base : Heap}
theorem ok_choose (T : Top K mg) : FnC P w K mg base CX0 8 (He.ma K (He.ga K "Driver") "_choose") (spCh K) := by
  have G_Driver__must_reset := ok_must (P := P) (w := w) (base := base) T
  have G_Driver__begin_reset := ok_begR (P := P) (w := w) (base := base) T
  have G_Driver__may_send := ok_may (P := P) (w := w) (base := base) T
  have G_Driver__begin_sending := ok_begS (P := P) (w := w) (base := base) T
  have G_Driver__make := ok_make (P := P) (w := w) (base := base) T
  have G_interrupt := ok_interrupt (P := P) (w := w) (base := base) T
  refine fnc0 T.d_Driver__choose sc_Driver__choose (fun _ _ _ _ _ _ us hl => match us, hl with | [_], _ => rfl) (fun vs H Q E h => ?_) (fun cdv A outer s H vs Q E hr h => ?_)
  · obtain ⟨mm, X, c, S, rfl, _⟩ := h
    rfl
  · obtain ⟨mm, X, c, S, rfl, h, hd, hk, hle, hc, ch, k⟩ := h
    refine ⟨_, (pss_cons (ps_if (pt_val (pe_fld (pv 0) rfl)) (pss_one ps_retN) pss_nil)
    (pss_one (ps_if (pt_val (pe_m0 G_Driver__must_reset hr (by decide) T.cl_Driver T.me_Driver__must_reset pass0 (pv 0))) (pss_one (ps_expr (pe_m0 G_Driver__begin_reset hr (by decide) T.cl_Driver T.me_Driver__begin_reset pass0 (pv 0)))) (pss_one (ps_if (pt_val (pe_m0 G_Driver__may_send hr (by decide) T.cl_Driver T.me_Driver__may_send pass0 (pv 0))) (pss_one (ps_expr (pe_m0 G_Driver__begin_sending hr (by decide) T.cl_Driver T.me_Driver__begin_sending pass0 (pv 0)))) (pss_one (ps_if (pt_truth (pe_fld (pv 0) rfl) (fun _ => rfl)) (pss_one (ps_expr (pe_m G_Driver__make hr (by decide) T.cl_Driver T.me_Driver__make pass0 (pv 0) (pa_cons (pe_lst (pa_cons (pe_tup (pa_cons pe_str (pa_cons (pe_f G_interrupt hr (by decide) (by rfl) T.g_interrupt pass0 (pa_cons (pe_fld (pv 0) rfl) pa_nil)) pa_nil))) pa_nil)) (pa_cons (pe_bnd T.cl_Driver (T.bm_Driver__take_interrupt.b T.me_Driver__take_interrupt) (pv 0)) pa_nil))))) pss_nil))))))), ?_⟩
    refine ⟨_, rfl, X.o, CR K, X.d, _, _, rfl, h.oo, T.cl_Driver, T.na_Driver_broken, lr_bk, _, rfl, ?_⟩
    have snl : SnOk X := fun _ z => absurd hle z
    have eb : (X.f mm).bk = X.bk := rfl
    rw [eb]
    have must : ∀ {b : Bool}, mustB X = b → ∀ {R : VK}, (∀ H', Same H H' → R (.bl b) H') → spMust K [.ref X.o] H R E0 := fun e R r => ⟨mm, X, rfl, h, hk, fun H' s => by rw [e]; exact r H' s⟩
    cases ch with
    | broken hb =>
      rw [hb]
      exact iteY rfl (k X H h rfl KS.refl (fun b hb => .inl hb) rfl snl)
    | reset hb hm =>
      rw [hb]
      refine iteN (by decide) ?_
      refine ⟨_, rfl, X.o, X.d, _, rfl, h.oo, zn (by decide +kernel), mm, X, rfl, h, hk, fun H1 s1 => ⟨_, rfl, ?_⟩⟩
      rw [hm]
      refine iteY rfl ?_
      have h1 := h.same s1
      have k1 := k.same s1
      refine ⟨_, rfl, X.o, X.d, _, rfl, h1.oo, zn (by decide +kernel), mm, X, rfl, h1, hd, hk, fun X' H' a1 a2 a3 a4 a5 => k1 X' H' a1 a2 a3 a4 a5 ?_⟩
      intro z
      have : X'.th = .tick := congrArg DD.th a5
      rw [this] at z
      cases z
    | @send hb hm hy e ut ft ok =>
      rw [hb]
      refine iteN (by decide) ?_
      refine ⟨_, rfl, X.o, X.d, _, rfl, h.oo, zn (by decide +kernel), mm, X, rfl, h, hk, fun H1 s1 => ⟨_, rfl, ?_⟩⟩
      rw [hm]
      refine iteN (by decide) ?_
      have h1 := h.same s1
      have k1 := k.same s1
      obtain ⟨o1, o2, o3, o4, o5, o6, o7, o8, o9, o10⟩ := ok
      refine ⟨_, rfl, X.o, X.d, _, rfl, h1.oo, zn (by decide +kernel), mm, X, rfl, h1, hk, (fun i l z => by rw [o4] at z; injection z with z1 z2; exact ⟨X.n, e, z1.symm, o8⟩), fun H2 s2 => ⟨_, rfl, ?_⟩⟩
      rw [hy]
      refine iteY rfl ?_
      have h2 := h1.same s2
      have k2 := k1.same s2
      refine ⟨_, rfl, X.o, X.d, _, rfl, h2.oo, zn (by decide +kernel), mm, X, e, c, ut, ft, rfl, h2, hd, hk, hc.ks (S := []) (KS.of (s1.trans s2)) (fun z => nomatch z), o1, o2, o3, o4, o5, o6, o7, o8, o9, o10, fun X' H' a1 a2 a3 a4 a5 => k2 X' H' a1 a2 a3 a4 a5.1 fun _ _ => a5.2⟩
    | rest hb hm hv hy hw =>
      rw [hb]
      refine iteN (by decide) ?_
      refine ⟨_, rfl, X.o, X.d, _, rfl, h.oo, zn (by decide +kernel), mm, X, rfl, h, hk, fun H1 s1 => ⟨_, rfl, ?_⟩⟩
      rw [hm]
      refine iteN (by decide) ?_
      have h1 := h.same s1
      have k1 := k.same s1
      refine ⟨_, rfl, X.o, X.d, _, rfl, h1.oo, zn (by decide +kernel), mm, X, rfl, h1, hk, hv, fun H2 s2 => ⟨_, rfl, ?_⟩⟩
      rw [hy]
      refine iteN (by decide) ?_
      have h2 := h1.same s2
      have k2 := k1.same s2
      refine ⟨_, rfl, X.o, CR K, X.d, _, _, rfl, h2.oo, T.cl_Driver, T.na_Driver__under_way, lr_uw, _, .inr (.inr ⟨_, h2.ouw, rfl⟩), ?_⟩
      have hw : X.ss.take X.n = [] := hw
      rw [hw]
      exact iteN (by decide) (k2 X _ h2 rfl KS.refl (fun b hb => .inl hb) rfl snl)
    | poll hb hm hv hy hw =>
      rw [hb]
      refine iteN (by decide) ?_
      refine ⟨_, rfl, X.o, X.d, _, rfl, h.oo, zn (by decide +kernel), mm, X, rfl, h, hk, fun H1 s1 => ⟨_, rfl, ?_⟩⟩
      rw [hm]
      refine iteN (by decide) ?_
      have h1 := h.same s1
      have k1 := k.same s1
      refine ⟨_, rfl, X.o, X.d, _, rfl, h1.oo, zn (by decide +kernel), mm, X, rfl, h1, hk, hv, fun H2 s2 => ⟨_, rfl, ?_⟩⟩
      rw [hy]
      refine iteN (by decide) ?_
      have h2 := h1.same s2
      have k2 := k1.same s2
      refine ⟨_, rfl, X.o, CR K, X.d, _, _, rfl, h2.oo, T.cl_Driver, T.na_Driver__under_way, lr_uw, _, .inr (.inr ⟨_, h2.ouw, rfl⟩), ?_⟩
      refine iteY ?_ ?_
      · cases e : X.ss.take X.n with
        | nil => exact absurd e hw
        | cons a b => rfl
      refine ⟨_, rfl, X.o, X.d, _, rfl, h2.oo, zn (by decide +kernel), ?_⟩
      refine ⟨_, rfl, X.o, CR K, X.d, _, _, rfl, h2.oo, T.cl_Driver, T.na_Driver__device, lr_dv, X.dv, rfl, (by show 2 ≤ sizeLine; decide), fun q1 f1 => ⟨(by show 1 ≤ sizeLine; decide), fun p fp => ?_⟩⟩
      have t1 := Same.new (o := HO.tup [V.str "read", .int (dbell X.dv + 3)]) (Same.refl _) f1
      have t2 := Same.new (o := HO.lst [V.ref q1]) (Same.refl _) fp
      have t12 := t1.trans t2
      refine ⟨_, rfl, X.o, X.d, _, rfl, t12 _ _ h2.oo, zn (by decide +kernel), fun q fq => ?_⟩
      have t3 := Same.new (o := HO.met (He.ma K (He.ga K "Driver") "_take_interrupt") X.o) (Same.refl _) fq
      dsimp only [tNil, List.append_nil]
      have kk : DEnd K H2 mm X (fun X' => X'.dat = intDD X) (Q .non) := fun X' H' a1 a2 a3 a4 a5 => k2 X' H' a1 a2 a3 a4 a5 fun z => by
        have : X'.th = .intr := congrArg DD.th a5
        rw [this] at z
        cases z
      exact ⟨mm, p, q, X, .intr, [intrD], [.ref q1], rfl, h2.same (t12.trans t3), t3 _ _ upd_same, .cons (.tup (xs := [V.str "read", .int (dbell X.dv + 3)]) (SqT.of ((t2.trans t3) _ _ upd_same)) (.cons (.str _) (.cons (by rw [hd]; exact .int _) .nil))) .nil, rfl, upd_same, fun le re H' hm ks fl fr => kk.make h2 (t12.trans t3) (t12.free fq) hm ks fl fr rfl⟩
end
end Rb
namespace Rb
open PySem PySem.Spec PyProof.Rows L2
/-! ### a step of the driver -/
def ThOk (X : DV) : Prop := match X.th with
  | .rest => True
  | .ends => X.Wk ∧ ∃ s e, X.ss[X.n]? = some s ∧ X.sn = .ref s.j ∧ s.k = X.n ∧ X.es[s.k]? = some e ∧ e.sd ≤ 900
  | .intr => ∃ ds, X.res = .int 0 :: ds
  | .comp => ∃ ds, X.res = ds ++ [.none]
  | .tick => ∃ ds t, X.res = ds ++ [.int t]
  | .ackn => X.bh.isSome = true ∧ ∃ ds r, X.res = .int r :: ds
  | .rdy => X.es.length ≤ 60 ∧ (∀ x ∈ X.es, x.an = none) ∧ ∃ ds r, r ≠ 1 ∧ X.res = ds ++ [.int r]
/-- what the continuation leaves -/
inductive ThenR (X : DV) (num : Int) : DD → Prop
  | rest (h : X.th = .rest) : ThenR X num X.dat
  | ends (h : X.th = .ends) {s : SX} {e : EX} (hs : X.ss[X.n]? = some s) (he : X.es[s.k]? = some e) : ThenR X num { X.dat with ss := X.dat.ss.set X.n { s.dat with ru := X.md }, n := X.n + 1, sq := X.sq + 1, es := X.dat.es.set s.k { e.dat with sd := e.sd + 1 } }
  | intr (h : X.th = .intr) : ThenR X num (if X.pt + 1 = 4 then { X.dat with pt := X.pt + 1, left := [lookD], res := [], th := .comp } else { X.dat with pt := X.pt + 1 })
  | comp (h : X.th = .comp) : ThenR X num { X.dat with pt := 0 }
  | tick (h : X.th = .tick) {ds : List PyData} {t : Int} (hr : X.res = ds ++ [.int t]) : ThenR X num { X.dat with tk := t, left := [ackD], res := [], th := .ackn }
  | ackn (h : X.th = .ackn) {ds : List PyData} {r : Int} (hr : X.res = .int r :: ds) : ThenR X num (if r ≥ X.tk then { X.dat with free := [2, 3, 4, 5], rg := 0, left := [rstD, rdyD], res := [], th := .rdy } else { X.dat with left := [ackD], res := [], th := .ackn })
  | rdy (h : X.th = .rdy) : ThenR X num (if X.rg + 1 < 100 then { X.dat with rg := X.rg + 1, left := [rdyD], res := [], th := .rdy } else { X.dat with rg := X.rg + 1, bk := true, n := 0, es := X.dat.es.map fun x => { x with an := some num } })
def accX (X : DV) (rest : List PyData) (rd : PyData) : DV := { X with md := X.md + 1, left := rest, res := X.res ++ [rd] }
/-- an access: what it needs, and what holds behind it -/
def AccQ (A : AM) (X : DV) (F : AM → DD → Prop) : Prop := ∃ (wd : Str) (ds rest : List PyData), X.left = .tuple (.str wd :: ds) :: rest ∧ DrvReq wd ds ∧ X.left.length ≤ 4000 ∧ X.res.length ≤ 900 ∧ ∀ rd A2, MI A2 → RdD A A2 wd ds rd → noL rd = true → A2.log = A.log ++ [logD (A.log.length + 1) "driver" 0 wd ds rd] →
  (rest = [] → ThOk (accX X rest rd)) ∧ ∀ D, (rest ≠ [] → D = (accX X rest rd).dat) → (rest = [] → ThenR (accX X rest rd) (A.log.length + 1) D) → F A2 D
def spStep (K : PySem.W.Frag) : Sp := fun vs H Q _ => ∃ (L : ML) (M : MS) (A : AM) (N : Nat) (X : DV), vs = [.ref X.o] ∧ DrvAt K H L.m X ∧ X.dv = 0 ∧ X.Wk ∧ SnOk X ∧ Abs K H L M A N ∧ MI A ∧ N < 2900 ∧ (∀ b ∈ X.all, b ∉ L.all) ∧
  ∃ (F : AM → DD → Prop) (F0 : DD → Prop), ((X.left ≠ [] ∧ AccQ A X F) ∨ (X.left = [] ∧ ∃ S, ChP X (A.log.length : Int) S ∧ ∀ X' : DV, S X'.dat → SnOk X' → (X'.left = [] ∧ F0 X'.dat) ∨ (X'.left ≠ [] ∧ X'.dv = 0 ∧ AccQ A X' F))) ∧
  (∀ X' H', Abs K H' L M A N → DrvAt K H' L.m X' → X'.o = X.o → KS X.all H H' → (∀ b ∈ X'.all, b ∈ X.all ∨ H b = none) → SnOk X' → F0 X'.dat → Q (.bl false) H') ∧
  (∀ X' H' M' A', Abs K H' L M' A' (N + 1) → MI A' → DrvAt K H' L.m X' → X'.o = X.o → KS (L.all ++ X.all) H H' → (∀ b ∈ X'.all, b ∈ X.all ∨ H b = none) → SnOk X' → F A' X'.dat → Q (.bl true) H')
theorem snok_of {X : DV} {D : DD} (e : X.dat = D) (h : D.th ≠ .ends ∨ D.left = []) : SnOk X := fun z1 z2 => by
  rcases h with h | h
  · exact absurd (by rw [← e]; exact z1) h
  · exact absurd (by rw [← e] at h; exact h) z2
section
variable {P : Program} {w : World} {K : PySem.W.Frag} {mg : Str → Option Value} {base : Heap}
theorem ok_step (T : Top K mg) (TB : ∃ es n, KDict K w (He.ga K "FORMS") es n) : FnC P w K mg base CX0 9 (He.ma K (He.ga K "Driver") "step") (spStep K) := by
  have G_Driver__choose := ok_choose (P := P) (w := w) (base := base) T
  have G_Memory_access := ok_acc (P := P) (w := w) (base := base) T TB
  have G1 := ok_rest (P := P) (w := w) (base := base) T
  have G2 := ok_ends (P := P) (w := w) (base := base) T
  have G3 := ok_intr (P := P) (w := w) (base := base) T
  have G4 := ok_compl (P := P) (w := w) (base := base) T
  have G5 := ok_tick (P := P) (w := w) (base := base) T
  have G6 := ok_ackn (P := P) (w := w) (base := base) T
  have G7 := ok_rdy (P := P) (w := w) (base := base) T
  refine fnc0 T.d_Driver_step sc_Driver_step (fun _ _ _ _ _ _ us hl => match us, hl with | [_], _ => rfl) (fun vs H Q E h => ?_) (fun cdv A outer s H vs Q E hr h => ?_)
  · obtain ⟨L, M, A, N, X, rfl, _⟩ := h
    rfl
  · obtain ⟨L, M, A, N, X, rfl, h, hd, hk, hsn, hA, hM, hN, hap, F, F0, alt, kf, k⟩ := h
    refine ⟨_, (pss_cons (ps_join (ps_if (pt_not (pt_truth (pe_fld (pv 0) rfl) (fun _ => rfl))) (pss_one (ps_expr (pe_m0 G_Driver__choose hr (by decide) T.cl_Driver T.me_Driver__choose pass0 (pv 0)))) pss_nil))
    (pss_cons (ps_join (ps_if (pt_not (pt_truth (pe_fld (pv 0) rfl) (fun _ => rfl))) (pss_one (ps_ret pe_bl)) pss_nil))
    (pss_cons (ps_asg (pe_m G_Memory_access hr (by decide) T.cl_Memory T.me_Memory_access passL (pe_fld (pv 0) rfl) (pa_cons (pe_tup (pa_cons pe_str (pa_cons (pe_fld (pv 0) rfl) pa_nil))) (pa_cons (pe_bm PySem.F.plainAttrs_list PySem.F.slot_list_pop PySem.F.type_list_pop mt_popAt (pe_fld (pv 0) rfl) (pa_cons pe_int pa_nil)) pa_nil))) (pg_tup rfl (pgs_cons (pg_name (i := 1) sc_Driver_step.nd rfl (Or.inl rfl)) (pgs_cons (pg_name (i := 2) sc_Driver_step.nd rfl (Or.inl rfl)) pgs_nil))))
    (pss_cons (ps_fldaug (pv 0) pe_int in_add)
    (pss_cons (ps_expr (pe_bm PySem.F.plainAttrs_list PySem.F.slot_list_append PySem.F.type_list_append mt_append (pe_fld (pv 0) rfl) (pa_cons (pv 1) pa_nil)))
    (pss_cons (ps_join (ps_if (pt_not (pt_truth (pe_fld (pv 0) rfl) (fun _ => rfl))) (pss_one (ps_expr (pe_bcall hr (pv 0) (pa_cons (pe_fld (pv 0) rfl) (pa_cons (pv 2) pa_nil))))) pss_nil))
    (pss_one (ps_ret pe_bl)))))))), ?_⟩
    refine ⟨fun σ H1 => σ = (L2.start ["self", "result", "number"] [V.ref X.o]) ∧ ∃ X1, DrvAt K H1 L.m X1 ∧ X1.o = X.o ∧ KS X.all H H1 ∧ (∀ b ∈ X1.all, b ∈ X.all ∨ H b = none) ∧ SnOk X1 ∧ ((X1.left = [] ∧ F0 X1.dat) ∨ (X1.left ≠ [] ∧ X1.dv = 0 ∧ AccQ A X1 F)), ?_, ?_⟩
    · obtain ⟨l1, e1, d1⟩ := id h.ole.e
      have ll := Rb.DpAll.len d1
      refine ⟨_, rfl, X.o, CR K, X.d, _, _, rfl, h.oo, T.cl_Driver, T.na_Driver__left, lr_le, _, .inl ⟨_, SqL.of e1, rfl⟩, ?_⟩
      rcases alt with ⟨ne, acc⟩ | ⟨em, S, ch, hS⟩
      · refine iteN ?_ ?_
        · cases l1 with
          | nil => exact absurd (List.length_eq_zero_iff.mp ll.symm) ne
          | cons _ _ => simp
        · exact ⟨rfl, X, h, rfl, KS.refl, fun b hb => .inl hb, hsn, .inr ⟨ne, hd, acc⟩⟩
      · rw [em] at ll
        have l0 : l1 = [] := List.length_eq_zero_iff.mp ll
        rw [l0]
        refine iteY rfl ?_
        have hc : MemC K H L.m (A.log.length : Int) := ⟨_, _, hA.mem.om, (by rw [← hA.ct]; exact zl (i := 0) (by decide +kernel) rfl), rfl⟩
        exact ⟨_, rfl, X.o, X.d, _, rfl, h.oo, zn (by decide +kernel), L.m, X, A.log.length, S, rfl, h, hd, hk, em, hc, ch, fun X' H' a1 a2 a3 a4 hs sn => ⟨rfl, X', a1, a2, a3, a4, sn, hS X' hs sn⟩⟩
    · rintro σ H1 ⟨rfl, X1, h1, ho1, ks1, ha1, sn1, alt1⟩
      have hA1 : Abs K H1 L M A N := by
        refine hA.move (hA.mem.keep fun b hb => ?_) (ks1.ts h.noT)
        obtain ⟨o, eo, _⟩ := hA.mem.kind b hb
        rw [eo]
        exact ks1 b o eo fun z => hap b z hb
      obtain ⟨l1, e1, d1⟩ := id h1.ole.e
      have ll := Rb.DpAll.len d1
      have o1 := h1.oo
      rw [ho1] at o1
      refine ⟨fun σ H2 => σ = (L2.start ["self", "result", "number"] [V.ref X.o]) ∧ H2 = H1 ∧ X1.left ≠ [] ∧ X1.dv = 0 ∧ AccQ A X1 F, ?_, ?_⟩
      · refine ⟨_, rfl, X.o, CR K, X1.d, _, _, rfl, o1, T.cl_Driver, T.na_Driver__left, lr_le, _, .inl ⟨_, SqL.of e1, rfl⟩, ?_⟩
        rcases alt1 with ⟨em, f0⟩ | ⟨ne, d0, acc⟩
        · rw [em] at ll
          have l0 : l1 = [] := List.length_eq_zero_iff.mp ll
          rw [l0]
          exact iteY rfl (kf X1 H1 hA1 h1 ho1 ks1 ha1 sn1 f0)
        · refine iteN ?_ ⟨rfl, rfl, ne, d0, acc⟩
          cases l1 with
          | nil => exact absurd (List.length_eq_zero_iff.mp ll.symm) ne
          | cons _ _ => simp
      · rintro σ H2 ⟨rfl, e12, ne, d0, wd, ds, rest, hleft, req, hl4, hr9, kk⟩
        rw [e12]
        clear e12 H2
        rw [hleft] at d1
        cases d1 with
        | cons hq hxs =>
          rename_i qv xs
          obtain ⟨qa, qxs, rfl, hqa, hqd⟩ := dp_tup hq
          cases hqd with
          | @cons wv _ ys _ hw hys =>
            cases hw
            have apS : ∀ b ∈ X1.all, b ∉ L.all := fun b hb z => by
              rcases ha1 b hb with q | q
              · exact hap b q z
              · exact hA.mem.nin q z
            refine ⟨_, rfl, X.o, CR K, X1.d, _, _, rfl, o1, T.cl_Driver, T.na_Driver__memory, lr_mm, L.m, L.d, _, rfl, hA1.mem.om, zn (by decide +kernel), ?_⟩
            refine ⟨_, rfl, X.o, CR K, X1.d, _, _, rfl, o1, T.cl_Driver, T.na_Driver__device, lr_dv, (by show 2 ≤ sizeLine; decide), fun a fa => ?_⟩
            have sa := Same.new (o := HO.tup [V.str "driver", .int X1.dv]) (Same.refl _) fa
            have h2 := h1.same sa
            refine ⟨_, rfl, X.o, CR K, X1.d, _, _, rfl, sa _ _ o1, T.cl_Driver, T.na_Driver__left, lr_le, .inl ⟨rfl, _, SqL.of (sa _ _ e1)⟩, X1.le, _, ((0 : Nat) : Int), 0, .ref qa, rfl, rfl, sa _ _ e1, by decide, by decide, seq_n (by simp), rfl, ?_⟩
            have nlq := h1.ole.nl
            rw [hleft] at nlq
            obtain ⟨nq, nrest⟩ := and2 (show (noL (.tuple (.str wd :: ds)) && noLs rest) = true from nlq)
            have nds : noLs ds = true := nq
            have h3 : DrvAt K (upd _ X1.le (.lst xs)) L.m { X1 with left := rest } := h2.toLe (hxs.same sa) nrest
            have ksa : KS [X1.le] _ (upd (upd H1 a (.tup [V.str "driver", .int X1.dv])) X1.le (.lst xs)) := KS.refl.upd (by simp)
            have tsa : TSame K (upd H1 a (.tup [V.str "driver", .int X1.dv])) (upd (upd H1 a (.tup [V.str "driver", .int X1.dv])) X1.le (.lst xs)) := TSame.lst (sa _ _ e1)
            have nleL : X1.le ∉ L.all := apS _ (by simp [DV.all])
            have hA3 : Abs K (upd (upd H1 a (.tup [V.str "driver", .int X1.dv])) X1.le (.lst xs)) L M A N := (hA1.same sa).move ((hA1.same sa).mem.keep fun b hb => upd_ne fun z => nleL (by rw [← z]; exact hb)) tsa
            have ksH3 : KS X.all H (upd (upd H1 a (.tup [V.str "driver", .int X1.dv])) X1.le (.lst xs)) := fun b o e n => by
              have e2 := sa _ _ (ks1 b o e n)
              refine ksa b o e2 fun z => ?_
              rw [List.mem_singleton.mp z] at n e
              rcases ha1 X1.le (by simp [DV.all]) with q | q
              · exact n q
              · rw [q] at e
                cases e
            have hda : SqT K (upd (upd H1 a (.tup [V.str "driver", .int X1.dv])) X1.le (.lst xs)) a [.str "driver", .int ((0 : Nat) : Int)] := by
              refine SqT.of ((upd_ne (ne_of_none e1 fa).symm).trans ?_)
              rw [upd_same, d0]
              rfl
            have hq3 := tsa _ _ (Same.seqT sa hqa)
            have hy3 := Rb.DpAll.ts tsa _ _ nds (hys.same sa)
            obtain ⟨rd, A2, ok, g2, rdd⟩ := req.step hA3 hM
            dsimp only [tNil, List.append_nil]
            refine ok.acc hA3 hN (by decide) hda hq3 hy3 fun u r H4 M4 a4 hr4 nr kl hu eu => ?_
            have ksl : KS L.all _ H4 := kl
            have h4 := h3.ks ksl hA3.mem.noT apS
            have o4 : H4 X.o = some (.ins (CR K) X1.d (rFld (X1.f L.m))) := by
              rw [← ho1]
              exact h4.oo
            refine ⟨u, _, rfl, SqT.of eu, rfl, _, _, rfl, _, _, rfl, rfl, ?_⟩
            refine ⟨_, rfl, X.o, CR K, X1.d, _, _, rfl, o4, T.cl_Driver, T.na_Driver__made, lr_md, _, _, rfl, rfl, _, _, o4, (by show 23 < 1000; decide), ?_⟩
            rw [pr_md]
            obtain ⟨h5, ks5, _⟩ := h4.fld (bk := X1.bk) (wr := X1.wr) (sq := X1.sq) (pt := X1.pt) (md := X1.md + 1) (tk := X1.tk) (rg := X1.rg) (sn := X1.sn) (fs := { X1.f L.m with md := X1.md + 1 }) rfl
            have hr5 := Rb.Dp.ts (ks5.ts h4.mv1.noT) _ _ nr hr4
            have emd : (X1.f L.m).md = X1.md := rfl
            rw [emd, ← ho1]
            obtain ⟨r5, e5, d5⟩ := id h5.ore.e
            have d5 : DpAll K _ r5 X1.res := d5
            have lr5 := Rb.DpAll.len d5
            refine ⟨_, rfl, X1.o, CR K, X1.d, _, _, rfl, h5.oo, T.cl_Driver, T.na_Driver__results, lr_re, .inl ⟨rfl, _, SqL.of e5⟩, _, rfl, X1.re, _, _, rfl, rfl, e5, (by rw [lr5, sizeLine_eq]; omega), ?_⟩
            have nres : noLs (X1.res ++ [rd]) = true := by
              rw [noLs_app, h1.ore.nl]
              show (true && (noL rd && true)) = true
              rw [nr]
              rfl
            have h6 : DrvAt K _ L.m (accX X1 rest rd) := h5.toRe (Rb.DpAll.app d5 (.cons hr5 .nil)) nres
            have ks46 := ((KS.refl (S := [X1.o, X1.re]) (H := H4)).upd (p := X1.o) (o := .ins (CR K) X1.d (rFld { X1.f L.m with md := X1.md + 1 })) (by simp)).upd (p := X1.re) (o := .lst (r5 ++ [r])) (by simp)
            have nt46 : NoT [X1.o, X1.re] H4 := fun b hb => h4.noT b (by
              simp only [List.mem_cons, List.not_mem_nil, or_false] at hb
              rcases hb with rfl | rfl <;> simp [DV.all])
            have in46 : ∀ b ∈ [X1.o, X1.re], b ∈ X1.all := fun b hb => by
              simp only [List.mem_cons, List.not_mem_nil, or_false] at hb
              rcases hb with rfl | rfl <;> simp [DV.all]
            have a6 : Abs K (upd (upd H4 X1.o (.ins (CR K) X1.d (rFld { X1.f L.m with md := X1.md + 1 }))) X1.re (.lst (r5 ++ [r]))) L M4 { A2 with log := A.log ++ [logD (A.log.length + 1) "driver" 0 wd ds rd] } (N + 1) := by
              refine a4.move (a4.mem.keep fun b hb => ?_) (ks46.ts nt46)
              obtain ⟨o, eo, _⟩ := a4.mem.kind b hb
              rw [eo]
              exact ks46 b o eo fun z => apS b (in46 b z) hb
            have ksH6 : KS (L.all ++ X.all) H (upd (upd H4 X1.o (.ins (CR K) X1.d (rFld { X1.f L.m with md := X1.md + 1 }))) X1.re (.lst (r5 ++ [r]))) := fun b o e n => by
              have n1 : b ∉ L.all := fun z => n (List.mem_append_left _ z)
              have n2 : b ∉ X.all := fun z => n (List.mem_append_right _ z)
              refine ks46 b o (ksl b o (ksH3 b o e n2) n1) fun z => ?_
              rcases ha1 b (in46 b z) with q | q
              · exact n2 q
              · rw [q] at e
                cases e
            obtain ⟨kth, kF⟩ := kk rd { A2 with log := A.log ++ [logD (A.log.length + 1) "driver" 0 wd ds rd] } g2.log ⟨rdd.tx, rdd.cm, rdd.ri, rdd.ry, rdd.rc, rdd.ra⟩ nr rfl
            have gM : MI { A2 with log := A.log ++ [logD (A.log.length + 1) "driver" 0 wd ds rd] } := g2.log
            obtain ⟨l6, e6, d6⟩ := id h6.ole.e
            have ll6 := Rb.DpAll.len d6
            have o6 := h6.oo
            refine ⟨fun σ H7 => ∃ X' M' A', Abs K H7 L M' A' (N + 1) ∧ MI A' ∧ DrvAt K H7 L.m X' ∧ X'.o = X.o ∧ KS (L.all ++ X.all) H H7 ∧ (∀ b ∈ X'.all, b ∈ X.all ∨ H b = none) ∧ SnOk X' ∧ F A' X'.dat, ?_, ?_⟩
            · refine ⟨_, rfl, X1.o, CR K, X1.d, _, _, rfl, o6, T.cl_Driver, T.na_Driver__left, lr_le, _, .inl ⟨_, SqL.of e6, rfl⟩, ?_⟩
              by_cases hre : rest = []
              · subst hre
                have l0 : l6 = [] := List.length_eq_zero_iff.mp ll6
                rw [l0]
                refine iteY rfl ?_
                have base : DEnd K (upd (upd H4 X1.o (.ins (CR K) X1.d (rFld { X1.f L.m with md := X1.md + 1 }))) X1.re (.lst (r5 ++ [r]))) L.m (accX X1 [] rd) (fun X' => ThenR (accX X1 [] rd) (A.log.length + 1) X'.dat ∧ SnOk X') (fun H7 => ∃ X' M' A', Abs K H7 L M' A' (N + 1) ∧ MI A' ∧ DrvAt K H7 L.m X' ∧ X'.o = X.o ∧ KS (L.all ++ X.all) H H7 ∧ (∀ b ∈ X'.all, b ∈ X.all ∨ H b = none) ∧ SnOk X' ∧ F A' X'.dat) := fun X' H7 c1 c2 c3 c4 c5 => by
                  have c3 : KS X1.all _ H7 := c3
                  have nt6 : NoT X1.all (upd (upd H4 X1.o (.ins (CR K) X1.d (rFld { X1.f L.m with md := X1.md + 1 }))) X1.re (.lst (r5 ++ [r]))) := h6.noT
                  refine ⟨X', M4, _, a6.move (a6.mem.keep fun b hb => ?_) (c3.ts nt6), gM, c1, c2.trans ho1, fun b o e n => ?_, fun b hb => ?_, c5.2, kF _ (fun z => absurd rfl z) fun _ => c5.1⟩
                  · obtain ⟨o, eo, _⟩ := a6.mem.kind b hb
                    rw [eo]
                    exact c3 b o eo fun z => apS b z hb
                  · refine c3 b o (ksH6 b o e n) fun z => ?_
                    rcases ha1 b z with q | q
                    · exact n (List.mem_append_right _ q)
                    · rw [q] at e
                      cases e
                  · rcases c4 b hb with q | q
                    · exact ha1 b q
                    · by_cases n1 : b ∈ X.all
                      · exact .inl n1
                      · refine .inr ?_
                        cases e : H b with
                        | none => rfl
                        | some o =>
                          by_cases n2 : b ∈ L.all
                          · obtain ⟨o2, eo, _⟩ := a6.mem.kind b n2
                            rw [q] at eo
                            cases eo
                          · have := ksH6 b o e (by simp only [List.mem_append, not_or]; exact ⟨n2, n1⟩)
                            rw [q] at this
                            cases this
                have th := kth rfl
                have omt := h6.mt.oth
                unfold ThOk at th
                cases eth : X1.th with
                | rest =>
                  rw [show (accX X1 [] rd).th = .rest from eth] at th omt
                  have om : (upd (upd H4 X1.o (.ins (CR K) X1.d (rFld { X1.f L.m with md := X1.md + 1 }))) X1.re (.lst (r5 ++ [r]))) X1.q = some (.met (He.ma K (He.ga K "Driver") "_rest") X1.o) := omt
                  exact ⟨_, rfl, X1.o, CR K, X1.d, _, X1.q, X1.o, _, 1, spRest K, rfl, o6, T.cl_Driver, T.na_Driver__then, lr_th, om, T.bm_Driver__rest.fi, G1, by decide, _, rfl, X1.o, CR K, X1.d, _, _, rfl, o6, T.cl_Driver, T.na_Driver__results, lr_re, _, rfl, om, _, _, _, rfl, base (accX X1 [] rd) _ h6 rfl KS.refl (fun b hb => .inl hb) ⟨ThenR.rest (X := accX X1 [] rd) eth, snok_of rfl (.inr rfl)⟩⟩
                | ends =>
                  rw [show (accX X1 [] rd).th = .ends from eth] at th omt
                  have om : (upd (upd H4 X1.o (.ins (CR K) X1.d (rFld { X1.f L.m with md := X1.md + 1 }))) X1.re (.lst (r5 ++ [r]))) X1.q = some (.met (He.ma K (He.ga K "Driver") "_end_sending") X1.o) := omt
                  obtain ⟨wk, sx, ex, t1, t2, t3, t4, t5⟩ := th
                  exact ⟨_, rfl, X1.o, CR K, X1.d, _, X1.q, X1.o, _, 2, spEnds K, rfl, o6, T.cl_Driver, T.na_Driver__then, lr_th, om, T.bm_Driver__end_sending.fi, G2, by decide, _, rfl, X1.o, CR K, X1.d, _, _, rfl, o6, T.cl_Driver, T.na_Driver__results, lr_re, _, rfl, om, L.m, accX X1 [] rd, _, sx, ex, rfl, h6, wk, t1, t2, t3, t4, t5, fun X' H7 c1 c2 c3 c4 c5 => base X' H7 c1 c2 c3 c4 ⟨by rw [c5]; exact ThenR.ends (X := accX X1 [] rd) eth t1 t4, snok_of c5 (.inr rfl)⟩⟩
                | intr =>
                  rw [show (accX X1 [] rd).th = .intr from eth] at th omt
                  have om : (upd (upd H4 X1.o (.ins (CR K) X1.d (rFld { X1.f L.m with md := X1.md + 1 }))) X1.re (.lst (r5 ++ [r]))) X1.q = some (.met (He.ma K (He.ga K "Driver") "_take_interrupt") X1.o) := omt
                  obtain ⟨dd, t1⟩ := th
                  exact ⟨_, rfl, X1.o, CR K, X1.d, _, X1.q, X1.o, _, 4, spIntr K, rfl, o6, T.cl_Driver, T.na_Driver__then, lr_th, om, T.bm_Driver__take_interrupt.fi, G3, by decide, _, rfl, X1.o, CR K, X1.d, _, _, rfl, o6, T.cl_Driver, T.na_Driver__results, lr_re, _, rfl, om, L.m, accX X1 [] rd, _, rfl, h6, d0, ⟨dd, t1⟩, fun X' H7 c1 c2 c3 c4 c5 => base X' H7 c1 c2 c3 c4 ⟨by rw [c5]; exact ThenR.intr (X := accX X1 [] rd) eth, snok_of c5 (by split <;> first | exact .inl (by intro z; cases z) | exact .inr rfl)⟩⟩
                | comp =>
                  rw [show (accX X1 [] rd).th = .comp from eth] at th omt
                  have om : (upd (upd H4 X1.o (.ins (CR K) X1.d (rFld { X1.f L.m with md := X1.md + 1 }))) X1.re (.lst (r5 ++ [r]))) X1.q = some (.met (He.ma K (He.ga K "Driver") "_take_completion") X1.o) := omt
                  obtain ⟨dd, t1⟩ := th
                  exact ⟨_, rfl, X1.o, CR K, X1.d, _, X1.q, X1.o, _, 7, spCompl K, rfl, o6, T.cl_Driver, T.na_Driver__then, lr_th, om, T.bm_Driver__take_completion.fi, G4, by decide, _, rfl, X1.o, CR K, X1.d, _, _, rfl, o6, T.cl_Driver, T.na_Driver__results, lr_re, _, rfl, om, L.m, accX X1 [] rd, _, rfl, h6, ⟨dd, t1⟩, fun X' H7 c1 c2 c3 c4 c5 => base X' H7 c1 c2 c3 c4 ⟨by rw [c5]; exact ThenR.comp (X := accX X1 [] rd) eth, snok_of c5 (.inr rfl)⟩⟩
                | tick =>
                  rw [show (accX X1 [] rd).th = .tick from eth] at th omt
                  have om : (upd (upd H4 X1.o (.ins (CR K) X1.d (rFld { X1.f L.m with md := X1.md + 1 }))) X1.re (.lst (r5 ++ [r]))) X1.q = some (.met (He.ma K (He.ga K "Driver") "_take_ticket") X1.o) := omt
                  obtain ⟨dd, t, t1⟩ := th
                  exact ⟨_, rfl, X1.o, CR K, X1.d, _, X1.q, X1.o, _, 6, spTick K, rfl, o6, T.cl_Driver, T.na_Driver__then, lr_th, om, T.bm_Driver__take_ticket.fi, G5, by decide, _, rfl, X1.o, CR K, X1.d, _, _, rfl, o6, T.cl_Driver, T.na_Driver__results, lr_re, _, rfl, om, L.m, accX X1 [] rd, _, t, rfl, h6, d0, ⟨dd, t1⟩, fun X' H7 c1 c2 c3 c4 c5 => base X' H7 c1 c2 c3 c4 ⟨by rw [c5]; exact ThenR.tick (X := accX X1 [] rd) eth t1, snok_of c5 (.inl (by intro z; cases z))⟩⟩
                | ackn =>
                  rw [show (accX X1 [] rd).th = .ackn from eth] at th omt
                  have om : (upd (upd H4 X1.o (.ins (CR K) X1.d (rFld { X1.f L.m with md := X1.md + 1 }))) X1.re (.lst (r5 ++ [r]))) X1.q = some (.met (He.ma K (He.ga K "Driver") "_take_acknowledge") X1.o) := omt
                  obtain ⟨t0, dd, t, t1⟩ := th
                  exact ⟨_, rfl, X1.o, CR K, X1.d, _, X1.q, X1.o, _, 6, spAckn K, rfl, o6, T.cl_Driver, T.na_Driver__then, lr_th, om, T.bm_Driver__take_acknowledge.fi, G6, by decide, _, rfl, X1.o, CR K, X1.d, _, _, rfl, o6, T.cl_Driver, T.na_Driver__results, lr_re, _, rfl, om, L.m, accX X1 [] rd, _, t, rfl, h6, d0, t0, ⟨dd, t1⟩, fun X' H7 c1 c2 c3 c4 c5 => base X' H7 c1 c2 c3 c4 ⟨by rw [c5]; exact ThenR.ackn (X := accX X1 [] rd) eth t1, snok_of c5 (by split <;> exact .inl (by intro z; cases z))⟩⟩
                | rdy =>
                  rw [show (accX X1 [] rd).th = .rdy from eth] at th omt
                  have om : (upd (upd H4 X1.o (.ins (CR K) X1.d (rFld { X1.f L.m with md := X1.md + 1 }))) X1.re (.lst (r5 ++ [r]))) X1.q = some (.met (He.ma K (He.ga K "Driver") "_take_ready") X1.o) := omt
                  obtain ⟨t0, t2, dd, t, t3, t1⟩ := th
                  exact ⟨_, rfl, X1.o, CR K, X1.d, _, X1.q, X1.o, _, 5, spRdy K, rfl, o6, T.cl_Driver, T.na_Driver__then, lr_th, om, T.bm_Driver__take_ready.fi, G7, by decide, _, rfl, X1.o, CR K, X1.d, _, _, rfl, o6, T.cl_Driver, T.na_Driver__results, lr_re, _, rfl, om, L.m, accX X1 [] rd, _, t, rfl, h6, d0, t0, t2, t3, ⟨dd, t1⟩, fun X' H7 c1 c2 c3 c4 c5 => base X' H7 c1 c2 c3 c4 ⟨by rw [c5]; exact ThenR.rdy (X := accX X1 [] rd) eth, snok_of c5 (by split <;> first | exact .inl (by intro z; cases z) | exact .inr rfl)⟩⟩
              · refine iteN ?_ ?_
                · cases l6 with
                  | nil => exact absurd (List.length_eq_zero_iff.mp ll6.symm) hre
                  | cons _ _ => simp
                · refine ⟨accX X1 rest rd, M4, _, a6, gM, h6, ho1, ksH6, fun b hb => ha1 b hb, fun z _ => sn1 z ne, kF _ (fun _ => rfl) fun z => absurd z hre⟩
            · rintro σ H7 ⟨X', M', A', b1, b2, b3, b4, b5, b6, b7, b8⟩
              exact k X' H7 M' A' b1 b2 b3 b4 b5 b6 b7 b8
end
end Rb
namespace Rb
open PySem PySem.Spec PyProof.Rows L2
def spErrI (K : PySem.W.Frag) : Sp := fun vs H Q _ => ∃ (o d : Addr) (rv : V) (r : RQ), vs = [.ref o, rv] ∧ H o = some (.ins (CE K) d []) ∧ H d = some (.own o) ∧ Dp K H rv r.d ∧
  ∀ H', ErrAt K H' ⟨o, d, r, none, none, 0⟩ → (∀ c u, H c = some u → c ≠ o → H' c = some u) → Q .non H'
def newE (o d : Addr) (r : RQ) : EX := ⟨o, d, r, none, none, 0⟩
def spCliI (K : PySem.W.Frag) : Sp := fun vs H Q _ => ∃ (c cd rl : Addr) (xs : List V) (rs : List RQ), vs = [.ref c, .ref rl] ∧ H c = some (.ins (CL K) cd []) ∧ H cd = some (.own c) ∧ H rl = some (.lst xs) ∧ DpAll K H xs (rs.map RQ.d) ∧ rs.length ≤ 60 ∧
  ∀ (el : Addr) (es : List EX) H', H' c = some (.ins (CL K) cd (List.zip ["_errands"] [.ref el])) → H' el = some (.lst (es.map fun x => .ref x.j)) → H el = none → es.map EX.dat = rs.map (fun r => ⟨r, none, none, 0⟩) → (∀ x ∈ es, ErrAt K H' x) → (es.map (·.j)).Nodup → (∀ b ∈ es.flatMap EX.all, H b = none) → (∀ b u, H b = some u → b ≠ c → H' b = some u) → Q .non H'
section
variable {P : Program} {w : World} {K : PySem.W.Frag} {mg : Str → Option Value} {base : Heap}
theorem ok_err_init (T : Top K mg) : FnC P w K mg base CX0 1 (He.ma K (He.ga K "Errand") "__init__") (spErrI K) := by
  refine fnc0 T.d_Errand___init__ sc_Errand___init__ (fun _ _ _ _ _ _ us hl => match us, hl with | [_, _], _ => rfl) (fun vs H Q E h => ?_) (fun cdv A outer s H vs Q E hr h => ?_)
  · obtain ⟨o, d, rv, r, rfl, _⟩ := h
    rfl
  · obtain ⟨o, d, rv, r, rfl, ho, hd, hv, k⟩ := h
    refine ⟨_, (pss_cons (ps_fld (pv 0) (pv 1) rfl)
    (pss_cons (ps_fld (pv 0) pe_non rfl)
    (pss_cons (ps_fld (pv 0) pe_non rfl)
    (pss_cons (ps_fld (pv 0) pe_non rfl)
    (pss_one (ps_fld (pv 0) (pe_tup pa_nil) rfl)))))), ?_⟩
    have nod : o ≠ d := ne_of ho hd (by intro z; cases z)
    refine ⟨_, rfl, _, rfl, o, CE K, d, List.zip [] [], rfl, ho, T.cl_Errand, T.na_Errand_request, (by decide), ?_⟩
    refine ⟨_, rfl, o, CE K, d, List.zip ["request"] [rv], rfl, (by rw [upd_same, zx (by decide +kernel) rfl]; rfl), T.cl_Errand, T.na_Errand_answer, (by show 1 < 1000; decide), ?_⟩
    refine ⟨_, rfl, o, CE K, d, List.zip ["request", "answer"] [rv, .non], rfl, (by rw [upd_same, zx (by decide +kernel) rfl]; rfl), T.cl_Errand, T.na_Errand_first, (by show 2 < 1000; decide), ?_⟩
    refine ⟨_, rfl, o, CE K, d, List.zip ["request", "answer", "first"] [rv, .non, .non], rfl, (by rw [upd_same, zx (by decide +kernel) rfl]; rfl), T.cl_Errand, T.na_Errand_last, (by show 3 < 1000; decide), ?_⟩
    refine ⟨(by show 0 ≤ sizeLine; exact Nat.zero_le _), fun p fp => ?_⟩
    obtain ⟨np1, fp1⟩ := free_upd fp
    obtain ⟨np2, fp1⟩ := free_upd fp1
    obtain ⟨np3, fp1⟩ := free_upd fp1
    obtain ⟨np4, fp1⟩ := free_upd fp1
    refine ⟨_, rfl, o, CE K, d, List.zip ["request", "answer", "first", "last"] [rv, .non, .non, .non], rfl, (by rw [upd_ne np1.symm, upd_same, zx (by decide +kernel) rfl]; rfl), T.cl_Errand, T.na_Errand_sendings, (by show 4 < 1000; decide), ?_⟩
    rw [zx (by decide +kernel) rfl]
    have ks : KS [o] H _ := (((((KS.refl (S := [o]) (H := H)).upd (p := o) (o := .ins (CE K) d (putF ("request" : Str) rv (List.zip [] []))) (by simp)).upd (p := o) (o := .ins (CE K) d (putF ("answer" : Str) .non (List.zip ["request"] [rv]))) (by simp)).upd (p := o) (o := .ins (CE K) d (putF ("first" : Str) .non (List.zip ["request", "answer"] [rv, .non]))) (by simp)).upd (p := o) (o := .ins (CE K) d (putF ("last" : Str) .non (List.zip ["request", "answer", "first"] [rv, .non, .non]))) (by simp)).put (o := .tup []) fp1
    have ks := ks.upd (p := o) (o := .ins (CE K) d (List.zip ((["request", "answer", "first", "last"] : List Str) ++ [("sendings" : Str)]) ([rv, .non, .non, .non] ++ [.ref p]))) (by simp)
    have nt : NoT [o] H := fun b hb => by
      rw [List.mem_singleton.mp hb, ho]
      exact ⟨fun _ z => (nomatch z), fun _ _ z => (nomatch z)⟩
    refine k _ ⟨⟨rv, .non, p, [], upd_same, Rb.Dp.ts (ks.ts nt) _ _ r.nl hv, .non, SqT.of ?_, rfl⟩, ks _ _ hd (by simp [nod.symm])⟩ fun c u e n => ks c u e (by simp [n])
    rw [upd_ne np1, upd_same]
theorem ok_cli_init (T : Top K mg) : FnC P w K mg base CX0 3 (He.ma K (He.ga K "Clients") "__init__") (spCliI K) := by
  have G_Errand___init__ := ok_err_init (P := P) (w := w) (base := base) T
  refine fnc0 T.d_Clients___init__ sc_Clients___init__ (fun _ _ _ _ _ _ us hl => match us, hl with | [_, _], _ => rfl) (fun vs H Q E h => ?_) (fun cdv A outer s H vs Q E hr h => ?_)
  · obtain ⟨c, cd, rl, xs, rs, rfl, _⟩ := h
    rfl
  · obtain ⟨c, cd, rl, xs, rs, rfl, ho, hd, hrl, hxs, hl, k⟩ := h
    have lx : xs.length = rs.length := by rw [Rb.DpAll.len hxs, List.length_map]
    refine ⟨_, (pss_one (ps_fld (pv 0) (pe_lc (own := [("request", 2)]) (g := gName 2) (tt := tYes) rfl sc_Clients___init__.nd (pi_list (pv 1)) (blkOk_by (N := ["self", "requests", "request"]) (sc := defScope s_Clients___init__) (by decide +kernel)) (fun _ _ _ _ _ => (pg_name (i := 2) sc_Clients___init__.nd rfl (Or.inl rfl))) (fun _ _ _ _ _ => pts_nil) (fun _ _ _ _ _ => (pe_k G_Errand___init__ hr (by decide) (by rfl) T.g_Errand T.mk_Errand pass0 (pa_cons (pv 2) pa_nil)))) rfl)), ?_⟩
    refine ⟨_, rfl, rl, rfl, ⟨_, SqL.of hrl⟩, fun D hD => ?_⟩
    refine lc_list (K := K) (a := rl) (xs := xs) (fun i H2 => ∃ es : List EX, H2 D = some (.lst (es.map fun x => V.ref x.j)) ∧ es.map EX.dat = (rs.take i).map (fun r => ⟨r, none, none, 0⟩) ∧ (∀ x ∈ es, ErrAt K H2 x) ∧ (es.map (·.j)).Nodup ∧ (∀ b ∈ es.flatMap EX.all, H b = none) ∧ Same H H2) ⟨[], upd_same, rfl, fun x hx => (nomatch hx), List.nodup_nil, fun x hx => (nomatch hx), Same.new (Same.refl _) hD⟩ (fun i H2 _ ⟨_, _, _, _, _, _, s⟩ => SqL.of (s _ _ hrl)) ?_ ?_
    · rintro i v H2 hi ⟨es, eD, edat, hes, nd, fr, s2⟩
      obtain ⟨d, hd2, hdp⟩ := dpAll_get hxs hi
      obtain ⟨r, hr2, rfl⟩ : ∃ r, rs[i]? = some r ∧ d = r.d := by
        rw [List.getElem?_map] at hd2
        cases e : rs[i]? with
        | none =>
          rw [e] at hd2
          cases hd2
        | some y =>
          rw [e] at hd2
          exact ⟨y, rfl, (Option.some.inj hd2).symm⟩
      refine ⟨rfl, ?_⟩
      refine ⟨_, rfl, fun x dx hx hdx nex => ?_⟩
      have sN : Same H2 (upd (upd H2 dx (.own x)) x (.ins (He.ga K "Errand") dx [])) := Same.new (Same.new (Same.refl _) hdx) hx
      refine ⟨x, dx, v, r, rfl, upd_same, (by rw [upd_ne nex, upd_same]), hdp.same (s2.trans sN), fun H3 hj kp => ⟨rfl, ?_⟩⟩
      have s3 : Same H2 H3 := fun b u e => kp b u (sN b u e) (ne_of_none e hx)
      have le : es.length ≤ 60 := by
        have := congrArg List.length edat
        rw [List.length_map, List.length_map, List.length_take] at this
        omega
      have nDx : D ≠ x := ne_of_none eD hx
      have nDd : D ≠ dx := ne_of_none eD hdx
      have keep : ∀ y : EX, D ≠ y.j → D ≠ y.d → ErrAt K H3 y → ErrAt K (upd H3 D (.lst (es.map (fun x => V.ref x.j) ++ [.ref x]))) y := fun y n1 n2 e => e.ts (fun b hb => by
        simp only [EX.all, List.mem_cons, List.not_mem_nil, or_false] at hb
        rcases hb with rfl | rfl
        · exact upd_ne n1.symm
        · exact upd_ne n2.symm) (TSame.lst (s3 _ _ eD))
      refine ⟨_, s3 _ _ eD, (by rw [List.length_map, sizeLine_eq]; omega), es ++ [newE x dx r], ?_, ?_, ?_, ?_, ?_, Same.put (s2.trans s3) hD⟩
      · rw [upd_same, List.map_append]
        rfl
      · rw [List.map_append, edat, List.take_add_one, hr2, List.map_append]
        rfl
      · intro y hy
        rcases List.mem_append.mp hy with q | q
        · have := hes y q
          obtain ⟨_, _, _, _, ey, _⟩ := this.oj
          exact keep y (ne_of eD ey (by intro z; cases z)) (ne_of eD this.od (by intro z; cases z)) (this.ts (fun b hb => by
            simp only [EX.all, List.mem_cons, List.not_mem_nil, or_false] at hb
            rcases hb with rfl | rfl
            · rw [ey]
              exact s3 _ _ ey
            · rw [this.od]
              exact s3 _ _ this.od) (TSame.same s3))
        · rw [List.mem_singleton.mp q]
          exact keep _ nDx nDd hj
      · rw [List.map_append, List.nodup_append]
        refine ⟨nd, by simp, fun a ha b hb z => ?_⟩
        obtain ⟨y, hy, rfl⟩ := List.mem_map.mp ha
        simp only [List.map_cons, List.map_nil, List.mem_cons, List.not_mem_nil, or_false] at hb
        obtain ⟨_, _, _, _, ey, _⟩ := (hes y hy).oj
        rw [z, hb] at ey
        have ey : H2 x = _ := ey
        rw [hx] at ey
        cases ey
      · intro b hb
        rw [List.flatMap_append] at hb
        rcases List.mem_append.mp hb with q | q
        · exact fr b q
        · simp only [List.flatMap_cons, List.flatMap_nil, EX.all, newE, List.append_nil, List.mem_cons, List.not_mem_nil, or_false] at q
          rcases q with rfl | rfl
          · exact s2.free hx
          · exact s2.free hdx
    · rintro H2 ⟨es, eD, edat, hes, nd, fr, s2⟩
      rw [lx, List.take_length] at edat
      have noD : c ≠ D := ne_of_none ho hD
      refine ⟨_, rfl, c, CL K, cd, List.zip [] [], rfl, s2 _ _ ho, T.cl_Clients, T.na_Clients__errands, (by decide), ?_⟩
      rw [zx (by decide +kernel) rfl]
      have ks : KS [c] H2 (upd H2 c (.ins (CL K) cd (List.zip (([] : List Str) ++ [("_errands" : Str)]) ([] ++ [V.ref D])))) := KS.refl.upd (by simp)
      have nt : NoT [c] H2 := fun b hb => by
        rw [List.mem_singleton.mp hb, s2 _ _ ho]
        exact ⟨fun _ z => (nomatch z), fun _ _ z => (nomatch z)⟩
      refine k D es _ upd_same ((upd_ne noD.symm).trans eD) hD edat (fun x hx => (hes x hx).ks ks nt fun b hb z => ?_) nd fr fun b u e n => (upd_ne n).trans (s2 _ _ e)
      have := fr b (List.mem_flatMap.mpr ⟨x, hx, hb⟩)
      rw [List.mem_singleton.mp z, ho] at this
      cases this
end
end Rb
namespace Rb
open PySem PySem.Spec PyProof.Rows L2
theorem KS.u {o : Addr} {H H1 : Hp} {u : HO} (a : KS [o] H H1) : KS [o] H (L2.upd H1 o u) := a.upd (List.mem_singleton_self _)
theorem KS.p {S : List Addr} {H H1 : Hp} {q : Addr} {u : HO} (a : KS S H H1) (h : H1 q = none) : KS S H (L2.upd H1 q u) := fun b x e n => by
  have e1 := a b x e n
  exact (upd_ne (ne_of_none e1 h)).trans e1
/-- `_make` of a driver that is not made yet -/
def spMk0 (K : PySem.W.Frag) : Sp := fun vs H Q _ => ∃ (o d rl qn : Addr) (f : FV) (xs : List V), vs = [.ref o, .ref rl, .ref qn] ∧ H o = some (.ins (CR K) d (rFld f)) ∧ H rl = some (.lst xs) ∧
  ∀ (l r : Addr) H', H' o = some (.ins (CR K) d (rFld { f with le := l, re := r, th := .ref qn })) → H' l = some (.lst xs) → H' r = some (.lst []) → KS [o] H H' → H l = none → H r = none → l ≠ r → Q .non H'
def initD (dv : Nat) (rs : List RQ) : DD := ⟨.rest, false, false, (dv : Int), 0, 0, false, 0, 0, 0, rs.map (fun r => ⟨r, none, none, 0⟩), [], 0, (List.range rs.length).map (fun i : Nat => (i : Int)), [2, 3, 4, 5], lendD dv, []⟩
def spDrvI (K : PySem.W.Frag) : Sp := fun vs H Q _ => ∃ (o d mm rl : Addr) (dv : Nat) (xs : List V) (rs : List RQ), vs = [.ref o, .ref mm, .int (dv : Int), .ref rl, .int 0] ∧ H o = some (.ins (CR K) d []) ∧ H d = some (.own o) ∧ H rl = some (.lst xs) ∧ DpAll K H xs (rs.map RQ.d) ∧ rs.length ≤ 60 ∧
  ∀ X H', DrvAt K H' mm X → X.o = o → X.d = d → X.dat = initD dv rs → (∀ b ∈ X.all, b = o ∨ b = d ∨ H b = none) → (∀ b u, H b = some u → b ≠ o → H' b = some u) → Q .non H'
section
variable {P : Program} {w : World} {K : PySem.W.Frag} {mg : Str → Option Value} {base : Heap}
theorem ok_make0 (T : Top K mg) : FnC P w K mg base CX0 1 (He.ma K (He.ga K "Driver") "_make") (spMk0 K) := by
  refine fnc0 T.d_Driver__make sc_Driver__make (fun _ _ _ _ _ _ us hl => match us, hl with | [_, _, _], _ => rfl) (fun vs H Q E h => ?_) (fun cdv A outer s H vs Q E hr h => ?_)
  · obtain ⟨o, d, rl, qn, f, xs, rfl, _⟩ := h
    rfl
  · obtain ⟨o, d, rl, qn, f, xs, rfl, ho, hrl, k⟩ := h
    refine ⟨_, (pss_cons (ps_fld (pv 0) (pe_callTy call_list_of (by rfl) T.b_list (by decide +kernel) (pa_cons (pv 1) pa_nil)) rfl)
    (pss_cons (ps_fld (pv 0) (pe_lst pa_nil) rfl)
    (pss_one (ps_fld (pv 0) (pv 2) rfl)))), ?_⟩
    refine ⟨_, rfl, rl, xs, rfl, .inl (SqL.of hrl), fun l hl => ?_⟩
    have nol : o ≠ l := ne_of_none ho hl
    refine ⟨_, rfl, o, CR K, d, _, rfl, (upd_ne nol).trans ho, T.cl_Driver, T.na_Driver__left, (by show 23 < 1000; decide), ?_⟩
    rw [pr_le]
    refine ⟨(by show 0 ≤ sizeLine; exact Nat.zero_le _), fun r hr2 => ?_⟩
    obtain ⟨nr, hr3⟩ := free_upd hr2
    obtain ⟨nrl, hr4⟩ := free_upd hr3
    refine ⟨_, rfl, o, CR K, d, _, rfl, (upd_ne nr.symm).trans upd_same, T.cl_Driver, T.na_Driver__results, (by show 23 < 1000; decide), ?_⟩
    rw [pr_re]
    refine ⟨_, rfl, _, rfl, o, CR K, d, _, rfl, upd_same, T.cl_Driver, T.na_Driver__then, (by show 23 < 1000; decide), ?_⟩
    rw [pr_th]
    have nol2 : l ≠ o := nol.symm
    exact k l r _ upd_same ((upd_ne nol2).trans ((upd_ne nol2).trans ((upd_ne nrl.symm).trans ((upd_ne nol2).trans upd_same)))) ((upd_ne nr).trans ((upd_ne nr).trans upd_same)) ((((KS.refl (S := [o])).p hl).u.p hr2).u.u) hl hr4 nrl.symm
theorem ok_drv_init (T : Top K mg) : FnC P w K mg base CX0 6 (He.ma K (He.ga K "Driver") "__init__") (spDrvI K) := by
  have G_Clients___init__ := ok_cli_init (P := P) (w := w) (base := base) T
  have G_Driver__make := ok_make0 (P := P) (w := w) (base := base) T
  have G_lend_rings := ok_lend (P := P) (w := w) (base := base) T
  refine fncD0 T.d_Driver___init__ (by decide) sc_Driver___init__ (fun _ _ _ _ _ _ _ us its hl hi => match us, its, hl, hi with | [_, _, _, _, _], [_], _, _ => ⟨_, rfl, rfl⟩) (fun vs H Q E h => ?_) (fun cdv A outer s H vs Q E hr h => ?_)
  · obtain ⟨o, d, mm, rl, dv, xs, rs, rfl, _⟩ := h
    rfl
  · obtain ⟨o, d, mm, rl, dv, xs, rs, rfl, ho, hd, hrl, hxs, hl, k⟩ := h
    refine ⟨_, (pss_cons (ps_fld (pv 0) pe_int rfl)
    (pss_cons (ps_fld (pv 0) pe_int rfl)
    (pss_cons (ps_fld (pv 0) pe_int rfl)
    (pss_cons (ps_fld (pv 0) pe_bl rfl)
    (pss_cons (ps_fld (pv 0) (pv 1) rfl)
    (pss_cons (ps_fld (pv 0) (pv 2) rfl)
    (pss_cons (ps_fld (pv 0) (pv 4) rfl)
    (pss_cons (ps_fld (pv 0) (pe_k G_Clients___init__ hr (by decide) (by rfl) T.g_Clients T.mk_Clients pass0 (pa_cons (pv 3) pa_nil)) rfl)
    (pss_cons (ps_fld (pv 0) (pe_listRg rfl (by rfl) T.b_list (prg_1 (by rfl) T.b_range (pe_callB call_len_seq (by rfl) T.b_len PySem.boot_len (pa_cons (pv 3) pa_nil)))) rfl)
    (pss_cons (ps_fld (pv 0) pe_dnewK rfl)
    (pss_cons (ps_fld (pv 0) (pe_callTy call_list_of (by rfl) T.b_list (by decide +kernel) (pa_cons (pe_gc (by rfl) T.c_POOL) pa_nil)) rfl)
    (pss_cons (ps_fld (pv 0) pe_int rfl)
    (pss_cons (ps_fld (pv 0) pe_int rfl)
    (pss_cons (ps_fld (pv 0) pe_bl rfl)
    (pss_cons (ps_fld (pv 0) pe_int rfl)
    (pss_cons (ps_fld (pv 0) pe_non rfl)
    (pss_cons (ps_fld (pv 0) pe_non rfl)
    (pss_cons (ps_fld (pv 0) (pe_lst pa_nil) rfl)
    (pss_cons (ps_fld (pv 0) (pe_lst pa_nil) rfl)
    (pss_cons (ps_fld (pv 0) pe_non rfl)
    (pss_cons (ps_fld (pv 0) pe_int rfl)
    (pss_cons (ps_fld (pv 0) pe_non rfl)
    (pss_cons (ps_fld (pv 0) pe_int rfl)
    (pss_one (ps_expr (pe_m G_Driver__make hr (by decide) T.cl_Driver T.me_Driver__make pass0 (pv 0) (pa_cons (pe_f G_lend_rings hr (by decide) (by rfl) T.g_lend_rings pass0 (pa_cons (pv 2) pa_nil)) (pa_cons (pe_bnd T.cl_Driver (T.bm_Driver__rest.b T.me_Driver__rest) (pv 0)) pa_nil)))))))))))))))))))))))))))), ?_⟩
    refine ⟨_, rfl, o, CR K, d, List.zip [] [], rfl, ho, T.cl_Driver, T.na_Driver_generation, (by show 0 < 1000; decide), ?_⟩
    rw [zx (by decide +kernel) rfl]
    refine ⟨_, rfl, o, CR K, d, List.zip ["generation"] [.int 0], rfl, upd_same, T.cl_Driver, T.na_Driver_completions, (by show 1 < 1000; decide), ?_⟩
    rw [zx (by decide +kernel) rfl]
    refine ⟨_, rfl, o, CR K, d, List.zip ["generation", "completions"] [.int 0, .int 0], rfl, upd_same, T.cl_Driver, T.na_Driver_resets, (by show 2 < 1000; decide), ?_⟩
    rw [zx (by decide +kernel) rfl]
    refine ⟨_, rfl, o, CR K, d, List.zip ["generation", "completions", "resets"] [.int 0, .int 0, .int 0], rfl, upd_same, T.cl_Driver, T.na_Driver_broken, (by show 3 < 1000; decide), ?_⟩
    rw [zx (by decide +kernel) rfl]
    refine ⟨_, rfl, _, rfl, o, CR K, d, List.zip ["generation", "completions", "resets", "broken"] [.int 0, .int 0, .int 0, .bl false], rfl, upd_same, T.cl_Driver, T.na_Driver__memory, (by show 4 < 1000; decide), ?_⟩
    rw [zx (by decide +kernel) rfl]
    refine ⟨_, rfl, _, rfl, o, CR K, d, List.zip ["generation", "completions", "resets", "broken", "_memory"] [.int 0, .int 0, .int 0, .bl false, .ref mm], rfl, upd_same, T.cl_Driver, T.na_Driver__device, (by show 5 < 1000; decide), ?_⟩
    rw [zx (by decide +kernel) rfl]
    refine ⟨_, rfl, _, rfl, o, CR K, d, List.zip ["generation", "completions", "resets", "broken", "_memory", "_device"] [.int 0, .int 0, .int 0, .bl false, .ref mm, .int dv], rfl, upd_same, T.cl_Driver, T.na_Driver__without, (by show 6 < 1000; decide), ?_⟩
    rw [zx (by decide +kernel) rfl]
    refine ⟨_, rfl, fun c cd hc hcd nec => ?_⟩
    have noc : o ≠ c := ne_of_none upd_same hc
    have nocd : o ≠ cd := ne_of_none upd_same hcd
    have nt : NoT [o] H := fun b hb => by rw [List.mem_singleton.mp hb, ho]; exact ⟨fun _ z => (nomatch z), fun _ _ z => (nomatch z)⟩
    have nrl : rl ∉ [o] := not1 ho hrl (by simp [tg])
    have nod : d ∉ [o] := not1 ho hd (by simp [tg])
    have ks7 := ((((((((KS.refl (S := [o]) (H := H)).u (u := .ins (CR K) d (List.zip ["generation"] [.int 0]))).u (u := .ins (CR K) d (List.zip ["generation", "completions"] [.int 0, .int 0]))).u (u := .ins (CR K) d (List.zip ["generation", "completions", "resets"] [.int 0, .int 0, .int 0]))).u (u := .ins (CR K) d (List.zip ["generation", "completions", "resets", "broken"] [.int 0, .int 0, .int 0, .bl false]))).u (u := .ins (CR K) d (List.zip ["generation", "completions", "resets", "broken", "_memory"] [.int 0, .int 0, .int 0, .bl false, .ref mm]))).u (u := .ins (CR K) d (List.zip ["generation", "completions", "resets", "broken", "_memory", "_device"] [.int 0, .int 0, .int 0, .bl false, .ref mm, .int dv]))).u (u := .ins (CR K) d (List.zip ["generation", "completions", "resets", "broken", "_memory", "_device", "_without"] [.int 0, .int 0, .int 0, .bl false, .ref mm, .int dv, .int 0])))
    have ks8 := (ks7.p (u := .own c) hcd).p (u := .ins (CL K) cd []) ((upd_ne nec.symm).trans hc)
    refine ⟨c, cd, rl, xs, rs, rfl, upd_same, (upd_ne nec).trans upd_same, ks8 _ _ hrl nrl, Rb.DpAll.ts (ks8.ts nt) _ _ (noLs_map (fun r => r.nl) _) hxs, hl, fun el es H9 ec eel fel edat hes nd fr kp => ⟨rfl, ?_⟩⟩
    have o9 : H9 o = some (.ins (CR K) d (List.zip ["generation", "completions", "resets", "broken", "_memory", "_device", "_without"] [.int 0, .int 0, .int 0, .bl false, .ref mm, .int dv, .int 0])) := kp o _ ((upd_ne noc).trans ((upd_ne nocd).trans upd_same)) noc
    have ks9 : KS [o] H H9 := fun b x e n => kp b x (ks8 b x e n) (ne_of_none (ks7 b x e n) hc)
    refine ⟨_, rfl, o, CR K, d, List.zip ["generation", "completions", "resets", "broken", "_memory", "_device", "_without"] [.int 0, .int 0, .int 0, .bl false, .ref mm, .int dv, .int 0], rfl, o9, T.cl_Driver, T.na_Driver__clients, (by show 7 < 1000; decide), ?_⟩
    rw [zx (by decide +kernel) rfl]
    refine ⟨_, rfl, rl, xs, rfl, .inl (SqL.of (ks9.u rl _ hrl nrl)), _, rfl, RgOk.of_le (by decide) (by rw [Rb.DpAll.len hxs, List.length_map]; omega) (by decide) (by omega), fun un hun => ?_⟩
    refine ⟨_, rfl, o, CR K, d, List.zip ["generation", "completions", "resets", "broken", "_memory", "_device", "_without", "_clients"] [.int 0, .int 0, .int 0, .bl false, .ref mm, .int dv, .int 0, .ref c], rfl, (upd_ne (ne_of_none upd_same hun)).trans upd_same, T.cl_Driver, T.na_Driver__unsent, (by show 8 < 1000; decide), ?_⟩
    rw [zx (by decide +kernel) rfl]
    refine fun uw huw => ?_
    refine ⟨_, rfl, o, CR K, d, List.zip ["generation", "completions", "resets", "broken", "_memory", "_device", "_without", "_clients", "_unsent"] [.int 0, .int 0, .int 0, .bl false, .ref mm, .int dv, .int 0, .ref c, .ref un], rfl, (upd_ne (ne_of_none upd_same huw)).trans upd_same, T.cl_Driver, T.na_Driver__under_way, (by show 9 < 1000; decide), ?_⟩
    rw [zx (by decide +kernel) rfl]
    refine ⟨_, _, rfl, .inr (T.t_POOL _), fun fr2 hfr => ?_⟩
    refine ⟨_, rfl, o, CR K, d, List.zip ["generation", "completions", "resets", "broken", "_memory", "_device", "_without", "_clients", "_unsent", "_under_way"] [.int 0, .int 0, .int 0, .bl false, .ref mm, .int dv, .int 0, .ref c, .ref un, .ref uw], rfl, (upd_ne (ne_of_none upd_same hfr)).trans upd_same, T.cl_Driver, T.na_Driver__free, (by show 10 < 1000; decide), ?_⟩
    rw [zx (by decide +kernel) rfl]
    refine ⟨_, rfl, o, CR K, d, List.zip ["generation", "completions", "resets", "broken", "_memory", "_device", "_without", "_clients", "_unsent", "_under_way", "_free"] [.int 0, .int 0, .int 0, .bl false, .ref mm, .int dv, .int 0, .ref c, .ref un, .ref uw, .ref fr2], rfl, upd_same, T.cl_Driver, T.na_Driver__sequence, (by show 11 < 1000; decide), ?_⟩
    rw [zx (by decide +kernel) rfl]
    refine ⟨_, rfl, o, CR K, d, List.zip ["generation", "completions", "resets", "broken", "_memory", "_device", "_without", "_clients", "_unsent", "_under_way", "_free", "_sequence"] [.int 0, .int 0, .int 0, .bl false, .ref mm, .int dv, .int 0, .ref c, .ref un, .ref uw, .ref fr2, .int 0], rfl, upd_same, T.cl_Driver, T.na_Driver__patience, (by show 12 < 1000; decide), ?_⟩
    rw [zx (by decide +kernel) rfl]
    refine ⟨_, rfl, o, CR K, d, List.zip ["generation", "completions", "resets", "broken", "_memory", "_device", "_without", "_clients", "_unsent", "_under_way", "_free", "_sequence", "_patience"] [.int 0, .int 0, .int 0, .bl false, .ref mm, .int dv, .int 0, .ref c, .ref un, .ref uw, .ref fr2, .int 0, .int 0], rfl, upd_same, T.cl_Driver, T.na_Driver__is_wrong, (by show 13 < 1000; decide), ?_⟩
    rw [zx (by decide +kernel) rfl]
    refine ⟨_, rfl, o, CR K, d, List.zip ["generation", "completions", "resets", "broken", "_memory", "_device", "_without", "_clients", "_unsent", "_under_way", "_free", "_sequence", "_patience", "_is_wrong"] [.int 0, .int 0, .int 0, .bl false, .ref mm, .int dv, .int 0, .ref c, .ref un, .ref uw, .ref fr2, .int 0, .int 0, .bl false], rfl, upd_same, T.cl_Driver, T.na_Driver__made, (by show 14 < 1000; decide), ?_⟩
    rw [zx (by decide +kernel) rfl]
    refine ⟨_, rfl, o, CR K, d, List.zip ["generation", "completions", "resets", "broken", "_memory", "_device", "_without", "_clients", "_unsent", "_under_way", "_free", "_sequence", "_patience", "_is_wrong", "_made"] [.int 0, .int 0, .int 0, .bl false, .ref mm, .int dv, .int 0, .ref c, .ref un, .ref uw, .ref fr2, .int 0, .int 0, .bl false, .int 0], rfl, upd_same, T.cl_Driver, T.na_Driver__sending, (by show 15 < 1000; decide), ?_⟩
    rw [zx (by decide +kernel) rfl]
    refine ⟨_, rfl, o, CR K, d, List.zip ["generation", "completions", "resets", "broken", "_memory", "_device", "_without", "_clients", "_unsent", "_under_way", "_free", "_sequence", "_patience", "_is_wrong", "_made", "_sending"] [.int 0, .int 0, .int 0, .bl false, .ref mm, .int dv, .int 0, .ref c, .ref un, .ref uw, .ref fr2, .int 0, .int 0, .bl false, .int 0, .non], rfl, upd_same, T.cl_Driver, T.na_Driver__contents, (by show 16 < 1000; decide), ?_⟩
    rw [zx (by decide +kernel) rfl]
    refine ⟨(by show 0 ≤ sizeLine; exact Nat.zero_le _), fun l0 hl0 => ?_⟩
    refine ⟨_, rfl, o, CR K, d, List.zip ["generation", "completions", "resets", "broken", "_memory", "_device", "_without", "_clients", "_unsent", "_under_way", "_free", "_sequence", "_patience", "_is_wrong", "_made", "_sending", "_contents"] [.int 0, .int 0, .int 0, .bl false, .ref mm, .int dv, .int 0, .ref c, .ref un, .ref uw, .ref fr2, .int 0, .int 0, .bl false, .int 0, .non, .non], rfl, (upd_ne (ne_of_none upd_same hl0)).trans upd_same, T.cl_Driver, T.na_Driver__left, (by show 17 < 1000; decide), ?_⟩
    rw [zx (by decide +kernel) rfl]
    refine ⟨(by show 0 ≤ sizeLine; exact Nat.zero_le _), fun r0 hr0 => ?_⟩
    refine ⟨_, rfl, o, CR K, d, List.zip ["generation", "completions", "resets", "broken", "_memory", "_device", "_without", "_clients", "_unsent", "_under_way", "_free", "_sequence", "_patience", "_is_wrong", "_made", "_sending", "_contents", "_left"] [.int 0, .int 0, .int 0, .bl false, .ref mm, .int dv, .int 0, .ref c, .ref un, .ref uw, .ref fr2, .int 0, .int 0, .bl false, .int 0, .non, .non, .ref l0], rfl, (upd_ne (ne_of_none upd_same hr0)).trans upd_same, T.cl_Driver, T.na_Driver__results, (by show 18 < 1000; decide), ?_⟩
    rw [zx (by decide +kernel) rfl]
    refine ⟨_, rfl, o, CR K, d, List.zip ["generation", "completions", "resets", "broken", "_memory", "_device", "_without", "_clients", "_unsent", "_under_way", "_free", "_sequence", "_patience", "_is_wrong", "_made", "_sending", "_contents", "_left", "_results"] [.int 0, .int 0, .int 0, .bl false, .ref mm, .int dv, .int 0, .ref c, .ref un, .ref uw, .ref fr2, .int 0, .int 0, .bl false, .int 0, .non, .non, .ref l0, .ref r0], rfl, upd_same, T.cl_Driver, T.na_Driver__then, (by show 19 < 1000; decide), ?_⟩
    rw [zx (by decide +kernel) rfl]
    refine ⟨_, rfl, o, CR K, d, List.zip ["generation", "completions", "resets", "broken", "_memory", "_device", "_without", "_clients", "_unsent", "_under_way", "_free", "_sequence", "_patience", "_is_wrong", "_made", "_sending", "_contents", "_left", "_results", "_then"] [.int 0, .int 0, .int 0, .bl false, .ref mm, .int dv, .int 0, .ref c, .ref un, .ref uw, .ref fr2, .int 0, .int 0, .bl false, .int 0, .non, .non, .ref l0, .ref r0, .non], rfl, upd_same, T.cl_Driver, T.na_Driver__ticket, (by show 20 < 1000; decide), ?_⟩
    rw [zx (by decide +kernel) rfl]
    refine ⟨_, rfl, o, CR K, d, List.zip ["generation", "completions", "resets", "broken", "_memory", "_device", "_without", "_clients", "_unsent", "_under_way", "_free", "_sequence", "_patience", "_is_wrong", "_made", "_sending", "_contents", "_left", "_results", "_then", "_ticket"] [.int 0, .int 0, .int 0, .bl false, .ref mm, .int dv, .int 0, .ref c, .ref un, .ref uw, .ref fr2, .int 0, .int 0, .bl false, .int 0, .non, .non, .ref l0, .ref r0, .non, .int 0], rfl, upd_same, T.cl_Driver, T.na_Driver__behind, (by show 21 < 1000; decide), ?_⟩
    rw [zx (by decide +kernel) rfl]
    refine ⟨_, rfl, o, CR K, d, List.zip ["generation", "completions", "resets", "broken", "_memory", "_device", "_without", "_clients", "_unsent", "_under_way", "_free", "_sequence", "_patience", "_is_wrong", "_made", "_sending", "_contents", "_left", "_results", "_then", "_ticket", "_behind"] [.int 0, .int 0, .int 0, .bl false, .ref mm, .int dv, .int 0, .ref c, .ref un, .ref uw, .ref fr2, .int 0, .int 0, .bl false, .int 0, .non, .non, .ref l0, .ref r0, .non, .int 0, .non], rfl, upd_same, T.cl_Driver, T.na_Driver__readings, (by show 22 < 1000; decide), ?_⟩
    rw [zx (by decide +kernel) rfl]
    refine ⟨_, rfl, o, d, rFld ⟨false, mm, dv, c, un, uw, fr2, 0, 0, false, 0, .non, l0, r0, .non, 0, .non, 0⟩, rfl, upd_same, zn (by decide +kernel), _, rfl, dv, rfl, fun p xs2 H10 fp ep dp s10 => ?_⟩
    have o10 : H10 o = some (.ins (CR K) d (rFld ⟨false, mm, dv, c, un, uw, fr2, 0, 0, false, 0, .non, l0, r0, .non, 0, .non, 0⟩)) := s10 _ _ upd_same
    have ks10 : KS [o] H9 H10 := fun b x e n => s10 b x (((((((KS.refl (S := [o]) (H := H9)).u.p hun).u.p huw).u.p hfr).u.u.u.u.u.u.u.p hl0).u.p hr0 |>.u.u.u.u.u) b x e n)
    have eun : H10 un = some (.lst (rgV 0 (xs.length : Int))) := s10 un _ ((((((KS.refl (S := [o])).u.p huw).u.p hfr).u.u.u.u.u.u.u.p hl0).u.p hr0 |>.u.u.u.u.u) un _ upd_same (fun z => ne_of_none upd_same hun (List.mem_singleton.mp z).symm))
    have euw : H10 uw = some (.dK []) := s10 uw _ (((((KS.refl (S := [o])).u.p hfr).u.u.u.u.u.u.u.p hl0).u.p hr0 |>.u.u.u.u.u) uw _ upd_same (fun z => ne_of_none upd_same huw (List.mem_singleton.mp z).symm))
    have efr : H10 fr2 = some (.lst [V.int 2, .int 3, .int 4, .int 5]) := s10 fr2 _ ((((KS.refl (S := [o])).u.u.u.u.u.u.u.p hl0).u.p hr0 |>.u.u.u.u.u) fr2 _ upd_same (fun z => ne_of_none upd_same hfr (List.mem_singleton.mp z).symm))
    refine ⟨_, rfl, o, d, _, rfl, o10, zn (by decide +kernel), fun q fq => ?_⟩
    have sq := Same.new (o := HO.met (He.ma K (He.ga K "Driver") "_rest") o) (Same.refl _) fq
    dsimp only [tNil, List.append_nil]
    refine ⟨o, d, p, q, ⟨false, mm, dv, c, un, uw, fr2, 0, 0, false, 0, .non, l0, r0, .non, 0, .non, 0⟩, xs2, rfl, sq _ _ o10, sq _ _ ep, fun l r H' ho' hl' hr' ks' fl frr nlr => ?_⟩
    have kq : KS [o] H10 H' := (KS.of sq).trans ks'
    have ks9' : KS [o] H9 H' := ks10.trans kq
    have ksA : KS [o] H H' := ks9.trans ks9'
    have no1 : ∀ {b : Addr}, b ≠ o → b ∉ [o] := fun h z => h (List.mem_singleton.mp z)
    have nt9 : NoT [o] H9 := fun b hb => by rw [List.mem_singleton.mp hb, o9]; exact ⟨fun _ z => (nomatch z), fun _ _ z => (nomatch z)⟩
    have nt10 : NoT [o] H10 := fun b hb => by rw [List.mem_singleton.mp hb, o10]; exact ⟨fun _ z => (nomatch z), fun _ _ z => (nomatch z)⟩
    have neo : ∀ {b : Addr}, H b = none → b ≠ o := fun h z => by rw [z, ho] at h; cases h
    have nun : un ≠ o := (ne_of_none upd_same hun).symm
    have nuw : uw ≠ o := (ne_of_none upd_same huw).symm
    have nfr : fr2 ≠ o := (ne_of_none upd_same hfr).symm
    have nel : el ≠ o := tg_ne eel o9 (by simp [tg])
    have nqo : q ≠ o := (ne_of_none o10 fq).symm
    have fc : H c = none := ks7.free hc (no1 noc.symm)
    have fcd : H cd = none := ks7.free hcd (no1 nocd.symm)
    have fe : H el = none := ks8.free fel (no1 nel)
    have hcd9 : H9 cd = some (.own c) := kp cd _ ((upd_ne nec).trans upd_same) nec
    have q1 : el ≠ un := ne_of_none ((KS.refl (S := [o])).u el _ eel (no1 nel)) hun
    have q2 : el ≠ fr2 := ne_of_none (((((KS.refl (S := [o]) (H := H9)).u.p hun).u.p huw).u) el _ eel (no1 nel)) hfr
    have q3 : un ≠ fr2 := ne_of_none ((((KS.refl (S := [o])).u.p huw).u) un _ upd_same (no1 nun)) hfr
    have el10 := ks10 _ _ eel (no1 nel)
    have elq := sq _ _ el10
    have unq := sq _ _ eun
    have frq := sq _ _ efr
    have esx : ∀ x ∈ es, ∀ b ∈ x.all, H b = none := fun x hx b hb => by
      have f1 := fr b (List.mem_flatMap.mpr ⟨x, hx, hb⟩)
      refine ks8.free f1 fun z => ?_
      rw [List.mem_singleton.mp z] at f1
      exact absurd (f1.symm.trans ((upd_ne noc).trans ((upd_ne nocd).trans upd_same))) (fun y => nomatch y)
    refine k ⟨o, d, c, cd, el, un, uw, fr2, l, r, q, .rest, none, false, dv, 0, 0, false, 0, 0, 0, .non, es, [], 0, (List.range rs.length).map (fun i : Nat => (i : Int)), [2, 3, 4, 5], lendD dv, []⟩ H' ⟨ho', ⟨ksA _ _ hd nod, ks9' _ _ ec (no1 noc.symm), ks9' _ _ hcd9 (no1 nocd.symm), ks9' _ _ eel (no1 nel)⟩, ⟨ks' _ _ upd_same (no1 nqo), fun b z => (nomatch z)⟩, fun x hx => (hes x hx).ks ks9' nt9 fun b hb => no1 (neo (esx x hx b hb)), fun x hx => (nomatch hx), ?_, kq _ _ euw (no1 nuw), kq _ _ efr (no1 nfr), ⟨⟨xs2, hl', Rb.DpAll.ts (kq.ts nt10) _ _ rfl dp⟩, rfl⟩, ⟨⟨[], hr', .nil⟩, rfl⟩, ?_, nd, List.nodup_nil⟩ rfl rfl ?_ (fun b hb => ?_) (fun b u e n => ksA b u e (no1 n))
    · have e : rgV 0 (xs.length : Int) = ((List.range rs.length).map (fun i : Nat => (i : Int))).map V.int := by
        unfold rgV
        rw [Rb.DpAll.len hxs, List.length_map, List.map_map, show ((rs.length : Int) - 0).toNat = rs.length by omega]
        refine List.map_congr_left fun i _ => ?_
        show V.int (0 + (i : Int)) = V.int (i : Int)
        rw [Int.zero_add]
      have := kq _ _ eun (no1 nun)
      rw [e] at this
      exact this
    · simp only [List.nodup_cons, List.mem_cons, List.not_mem_nil, or_false, not_or, List.nodup_nil, and_true, not_false_eq_true]
      exact ⟨⟨q1, q2, ne_of_none elq fl, ne_of_none elq frr⟩, ⟨q3, ne_of_none unq fl, ne_of_none unq frr⟩, ⟨ne_of_none frq fl, ne_of_none frq frr⟩, nlr⟩
    · show DV.dat _ = _
      unfold DV.dat initD
      rw [edat]
      rfl
    · have ksq : KS [o] H _ := (ks9.trans ks10).trans (KS.of sq)
      rcases List.mem_append.mp hb with z | z
      · simp only [List.mem_cons, List.not_mem_nil, or_false] at z
        rcases z with rfl | rfl | rfl | rfl | rfl | rfl | rfl | rfl | rfl | rfl | rfl
        · exact .inl rfl
        · exact .inr (.inl rfl)
        · exact .inr (.inr fc)
        · exact .inr (.inr fcd)
        · exact .inr (.inr fe)
        · exact .inr (.inr (ks9.u.free hun (no1 nun)))
        · exact .inr (.inr (((ks9.u.p hun).u).free huw (no1 nuw)))
        · exact .inr (.inr (((((ks9.u.p hun).u).p huw).u).free hfr (no1 nfr)))
        · exact .inr (.inr (ksq.free fl (no1 (ne_of_none (sq _ _ o10) fl).symm)))
        · exact .inr (.inr (ksq.free frr (no1 (ne_of_none (sq _ _ o10) frr).symm)))
        · exact .inr (.inr ((ks9.trans ks10).free fq (no1 nqo)))
      · rcases List.mem_append.mp z with z | z
        · exact nomatch z
        · rcases List.mem_append.mp z with z | z
          · obtain ⟨x, hx, hb⟩ := List.mem_flatMap.mp z
            exact .inr (.inr (esx x hx b hb))
          · exact nomatch z
end
end Rb
namespace Rb
open PySem PySem.Spec PyProof.Rows L2
def spIsCon (K : PySem.W.Frag) : Sp := fun vs H Q _ => ∃ (v : V) (con : List Int), vs = [v] ∧ Dp K H v (.tuple (con.map .int)) ∧ con.length = 4 ∧ ∀ H', Same H H' → Q (.bl true) H'
def spIsReq (K : PySem.W.Frag) : Sp := fun vs H Q _ => ∃ (v : V) (r : RQ), vs = [v] ∧ Dp K H v r.d ∧ r.Ok ∧ ∀ H', Same H H' → Q (.bl true) H'
def spAreReq (K : PySem.W.Frag) : Sp := fun vs H Q _ => ∃ (a l0 l1 : Addr) (xs : List V) (rs : List RQ), vs = [.ref a] ∧ H a = some (.lst [.ref l0, .ref l1]) ∧ H l0 = some (.lst xs) ∧ H l1 = some (.lst []) ∧ DpAll K H xs (rs.map RQ.d) ∧ (∀ r ∈ rs, r.Ok) ∧ rs.length ≤ 60 ∧ ∀ H', Same H H' → Q (.bl true) H'
theorem pi_listK {X : Cx} {K : PySem.W.Frag} {g l : Expr} {tl : TE} (hK : X.K = K) (hl : PE X l tl) : PI X g l (iList K tl) := by
  subst hK
  exact pi_list hl
theorem dpAll_ints {K : PySem.W.Frag} {H : Hp} : ∀ {xs : List V} {l : List Int}, DpAll K H xs (l.map .int) → xs = l.map .int
  | _, [], .nil => rfl
  | _, i :: l, .cons h t => by
    rw [dp_int h, dpAll_ints t]
    rfl
section
variable {P : Program} {w : World} {K : PySem.W.Frag} {mg : Str → Option Value} {base : Heap}
theorem ok_iscon (T : Top K mg) : FnC P w K mg base CX0 2 (He.ga K "is_contents") (spIsCon K) := by
  have G_is_integer := ok_is_integer (P := P) (w := w) (base := base) T
  refine fnc0 T.d_is_contents sc_is_contents (fun _ _ _ _ _ _ us hl => match us, hl with | [_], _ => rfl) (fun vs H Q E h => ?_) (fun cdv A outer s H vs Q E hr h => ?_)
  · obtain ⟨v, con, rfl, _⟩ := h
    rfl
  · obtain ⟨v, con, rfl, hv, h4, k⟩ := h
    obtain ⟨t, xs, rfl, ht, hx⟩ := dp_tup hv
    have ex := dpAll_ints hx
    subst ex
    refine ⟨_, (pss_one (ps_ret (pe_and (pe_cmpR op_isTyB (pe_callTy call_type1 (by rfl) T.b_type (by decide +kernel) (pa_cons (pv 0) pa_nil)) (pe_bltn (v := .ty "tuple") (by rfl) T.b_tuple (by decide +kernel) rfl) (nomark _)) (pe_and (pe_cmpR op_eq (pe_callB call_len_seq (by rfl) T.b_len PySem.boot_len (pa_cons (pv 0) pa_nil)) (pe_gc (by rfl) T.c_CELLS) (nomark _)) (pe_one (pe_callB (cr_all rfl) (by rfl) T.b_all (by decide +kernel) (pa_cons (pe_lc (own := [("value", 1)]) (g := gName 1) (tt := tYes) rfl sc_is_contents.nd (pi_tup (pv 0)) (blkOk_by (N := ["part", "value"]) (sc := defScope s_is_contents) (by decide +kernel)) (fun _ _ _ _ _ => (pg_name (i := 1) sc_is_contents.nd rfl (Or.inl rfl))) (fun _ _ _ _ _ => pts_nil) (fun _ _ _ _ _ => (pe_f G_is_integer hr (by decide) (by rfl) T.g_is_integer pass0 (pa_cons (pv 1) pa_nil)))) pa_nil))))))), ?_⟩
    refine ⟨_, rfl, _, _, rfl, .tup ht, _, _, rfl, rfl, ?_⟩
    refine ⟨_, rfl, iteY rfl ?_⟩
    refine ⟨_, rfl, t, _, rfl, .inr ht, rfl, ?_⟩
    refine ⟨_, rfl, iteY (by show decide (V.int (((con.map V.int).length : Nat) : Int) = V.int 4) = true; rw [List.length_map, h4]; decide) ?_⟩
    refine ⟨_, rfl, t, rfl, ⟨_, ht⟩, fun D hD => ?_⟩
    refine lc_tup (xs := con.map V.int) (fun i H2 => H2 D = some (.lst ((List.replicate i true).map V.bl)) ∧ Same H H2) ⟨upd_same, Same.new (Same.refl H) hD⟩ (fun i H2 _ h => Same.seqT h.2 ht) ?_ ?_
    · rintro i x H2 hi ⟨eD, s2⟩
      obtain ⟨j, hj, rfl⟩ := ref_at hi
      have il : i < 4 := by
        have := (List.getElem?_eq_some_iff.mp hj).1
        omega
      refine ⟨rfl, ?_⟩
      refine ⟨_, rfl, _, _, rfl, .int j, _, eD, (by rw [List.length_map, List.length_replicate, sizeLine_eq]; omega), ?_, Same.put s2 hD⟩
      rw [upd_same, List.replicate_succ', List.map_append]
      rfl
    · rintro H2 ⟨eD, s2⟩
      refine ⟨D, _, rfl, SqL.of eD, ?_⟩
      rw [List.length_map, h4]
      exact k H2 s2
theorem ok_isreq (T : Top K mg) : FnC P w K mg base CX0 3 (He.ga K "is_request") (spIsReq K) := by
  have G_is_number := ok_is_number (P := P) (w := w) (base := base) T
  have G_is_contents := ok_iscon (P := P) (w := w) (base := base) T
  refine fnc0 T.d_is_request sc_is_request (fun _ _ _ _ _ _ us hl => match us, hl with | [_], _ => rfl) (fun vs H Q E h => ?_) (fun cdv A outer s H vs Q E hr h => ?_)
  · obtain ⟨v, r, rfl, _⟩ := h
    rfl
  · obtain ⟨v, r, rfl, hv, ok, k⟩ := h
    obtain ⟨t, rest, rfl, ht, hrest⟩ := rq_two hv
    refine ⟨_, (pss_cons (ps_if (PW.pt (pw_or (pt_cmpR op_notTyB (pe_callTy call_type1 (by rfl) T.b_type (by decide +kernel) (pa_cons (pv 0) pa_nil)) (pe_bltn (v := .ty "tuple") (by rfl) T.b_tuple (by decide +kernel) rfl) (nomark _)) (pw_or1 (pt_cmpR op_lt (pe_callB call_len_seq (by rfl) T.b_len PySem.boot_len (pa_cons (pv 0) pa_nil)) pe_int (nomark _))))) (pss_one (ps_ret pe_bl)) pss_nil)
    (pss_cons (ps_asg (pv 0) (pg_star (n := 2) rfl (pgs_cons (pg_name (i := 1) sc_is_request.nd rfl (Or.inl rfl)) (pgs_cons (pg_name (i := 2) sc_is_request.nd rfl (Or.inl rfl)) (pgs_cons (pg_name (i := 3) sc_is_request.nd rfl (Or.inl rfl)) pgs_nil)))))
    (pss_cons (ps_if (PW.pt (pw_or (pt_cmpR op_notTyB (pe_callTy call_type1 (by rfl) T.b_type (by decide +kernel) (pa_cons (pv 1) pa_nil)) (pe_bltn (v := .ty "str") (by rfl) T.b_str (by decide +kernel) rfl) (nomark _)) (pw_or1 (pt_not (pt_val (pe_f G_is_number hr (by decide) (by rfl) T.g_is_number pass0 (pa_cons (pv 2) (pa_cons (pe_gc (by rfl) T.c_BLOCKS) pa_nil)))))))) (pss_one (ps_ret pe_bl)) pss_nil)
    (pss_cons (ps_if (pt_cmpR op_eq (pv 1) pe_str (nomark _)) (pss_one (ps_ret (pe_notT (pv 3)))) pss_nil)
    (pss_one (ps_ret (pe_and (pe_cmpR op_eq (pv 1) pe_str (nomark _)) (pe_and (pe_cmpR op_eq (pe_callB call_len_seq (by rfl) T.b_len PySem.boot_len (pa_cons (pv 3) pa_nil)) pe_int (nomark _)) (pe_one (pe_f G_is_contents hr (by decide) (by rfl) T.g_is_contents pass0 (pa_cons (pe_ix ix_list (pv 3) pe_int (fun _ _ => rfl)) pa_nil))))))))))), ?_⟩
    refine ⟨_, rfl, _, _, rfl, .tup ht, _, _, rfl, rfl, ?_⟩
    refine ⟨_, rfl, iteN (by decide) ?_⟩
    refine ⟨_, rfl, t, _, rfl, .inr ht, _, _, rfl, rfl, _, rfl, iteN (by show ¬ decide (((rest.length + 1 + 1 : Nat) : Int) < 2) = true; rw [decide_eq_true_eq]; omega) ?_⟩
    refine ⟨_, rfl, t, _, rfl, ht, (by simp), fun dd hdd => ⟨_, _, rfl, _, _, rfl, _, _, rfl, rfl, ?_⟩⟩
    have sd := Same.new (o := HO.lst rest) (Same.refl _) hdd
    refine ⟨_, rfl, _, _, rfl, .str _, _, _, rfl, rfl, _, rfl, iteN (by decide) ?_⟩
    refine ⟨_, rfl, _, _, _, rfl, .int _, _, rfl, iteN (by rw [show isNum (.int (r.blk : Int)) 8 = true from isNum_nat (n := 8) ok.b]; decide) ?_⟩
    refine ⟨_, rfl, rfl, _, rfl, ?_⟩
    cases hw : r.wr with
    | false =>
      rw [hw, if_neg (by decide)] at hrest
      cases hrest
      refine iteY (by decide +kernel) ?_
      refine ⟨_, rfl, _, .inl ⟨_, SqL.of upd_same, rfl⟩, ?_⟩
      exact k _ sd
    | true =>
      rw [hw, if_pos rfl] at hrest
      cases hrest with
      | cons hc hn =>
        cases hn
        refine iteN (by decide +kernel) ?_
        refine ⟨_, rfl, rfl, _, rfl, iteY (by decide +kernel) ?_⟩
        refine ⟨_, rfl, dd, _, rfl, .inl (SqL.of upd_same), rfl, _, rfl, iteY rfl ?_⟩
        exact ⟨_, rfl, dd, _, ((0 : Nat) : Int), _, rfl, rfl, SqL.of upd_same, atI_n (j := 0) rfl, _, r.con, rfl, hc.same sd, ok.c, fun H' s => k H' (sd.trans s)⟩
theorem ok_arereq (T : Top K mg) : FnC P w K mg base CX0 4 (He.ga K "are_requests") (spAreReq K) := by
  have G_is_request := ok_isreq (P := P) (w := w) (base := base) T
  refine fnc0 T.d_are_requests sc_are_requests (fun _ _ _ _ _ _ us hl => match us, hl with | [_], _ => rfl) (fun vs H Q E h => ?_) (fun cdv A outer s H vs Q E hr h => ?_)
  · obtain ⟨a, l0, l1, xs, rs, rfl, _⟩ := h
    rfl
  · obtain ⟨a, l0, l1, xs, rs, rfl, ha, h0, h1, hx, hok, hl, k⟩ := h
    refine ⟨_, (pss_cons (ps_if (PW.pt (pw_or (pt_not (pt_val (pe_callB call_isi (by rfl) T.b_isinstance (by decide +kernel) (pa_cons (pv 0) (pa_cons (pe_bltn (v := .ty "list") (by rfl) T.b_list (by decide +kernel) rfl) pa_nil))))) (pw_or1 (pt_cmpR op_ne (pe_callB call_len_seq (by rfl) T.b_len PySem.boot_len (pa_cons (pv 0) pa_nil)) (pe_gc (by rfl) T.c_DEVICES) (nomark _))))) (pss_one (ps_ret pe_bl)) pss_nil)
    (pss_one (ps_ret (pe_callB (cr_all rfl) (by rfl) T.b_all (by decide +kernel) (pa_cons (pe_lc (own := [("part", 1)]) (g := gName 1) (tt := tYes) rfl sc_are_requests.nd (pi_list (pv 0)) (blkOk_by (N := ["value", "part", "request"]) (sc := defScope s_are_requests) (by decide +kernel)) (fun _ _ _ _ _ => (pg_name (i := 1) sc_are_requests.nd rfl (Or.inl rfl))) (fun _ _ _ _ _ => pts_nil) (fun _ _ _ _ _ => (pe_and (pe_callB (r := rIsi K) call_isi (by rfl) T.b_isinstance (by decide +kernel) (pa_cons (pv 1) (pa_cons (pe_bltn (v := .ty "list") (by rfl) T.b_list (by decide +kernel) rfl) pa_nil))) (pe_one (pe_callB (r := rAll K) (cr_all rfl) (by rfl) T.b_all (by decide +kernel) (pa_cons (pe_lc (own := [("request", 2)]) (g := gName 2) (tt := tYes) rfl sc_are_requests.nd (pi_listK (K := K) rfl (pv 1)) (blkOk_by (by rfl)) (fun _ _ _ _ _ => (pg_name (i := 2) sc_are_requests.nd rfl (Or.inl rfl))) (fun _ _ _ _ _ => pts_nil) (fun _ _ _ _ _ => (pe_f G_is_request hr (by decide) (by rfl) T.g_is_request pass0 (pa_cons (pv 2) pa_nil)))) pa_nil)))))) pa_nil))))), ?_⟩
    have lx : xs.length = rs.length := by rw [Rb.DpAll.len hx, List.length_map]
    refine ⟨_, rfl, .ref a, .ty "list", .type "list", .type "list", true, rfl, .ty _, .base (.lst ha), kit_ty (by decide +kernel), _, rfl, iteN (by decide) ?_⟩
    refine ⟨_, rfl, a, _, rfl, .inl (SqL.of ha), rfl, _, rfl, iteN (by show ¬ (!decide (V.int ((2 : Nat) : Int) = V.int ((2 : Nat) : Int))) = true; decide) ?_⟩
    refine ⟨_, rfl, a, rfl, ⟨_, SqL.of ha⟩, fun D hD => ?_⟩
    refine lc_list (K := K) (a := a) (xs := [.ref l0, .ref l1]) (fun i H2 => H2 D = some (.lst ((List.replicate i true).map V.bl)) ∧ Same H H2) ⟨upd_same, Same.new (Same.refl H) hD⟩ (fun i H2 _ h => SqL.of (h.2 _ _ ha)) ?_ ?_
    · rintro i x H2 hi ⟨eD, s2⟩
      have il : i < 2 := (List.getElem?_eq_some_iff.mp hi).1
      obtain ⟨lx2, ys, qs, rfl, hly, hys, hq, hqo⟩ : ∃ (q : Addr) (ys : List V) (qs : List RQ), x = .ref q ∧ H q = some (.lst ys) ∧ DpAll K H ys (qs.map RQ.d) ∧ qs.length ≤ 60 ∧ ∀ r ∈ qs, r.Ok := by
        rcases (by omega : i = 0 ∨ i = 1) with rfl | rfl
        · cases hi
          exact ⟨l0, xs, rs, rfl, h0, hx, hl, hok⟩
        · cases hi
          exact ⟨l1, [], [], rfl, h1, .nil, by decide, fun r hr => nomatch hr⟩
      refine ⟨rfl, ?_⟩
      refine ⟨_, rfl, .ref lx2, .ty "list", .type "list", .type "list", true, rfl, .ty _, .base (.lst (s2 _ _ hly)), kit_ty (by decide +kernel), _, rfl, iteY rfl ?_⟩
      refine ⟨_, rfl, lx2, rfl, ⟨_, SqL.of (s2 _ _ hly)⟩, fun D2 hD2 => ?_⟩
      refine lc_list (K := K) (a := lx2) (xs := ys) (fun j H3 => H3 D2 = some (.lst ((List.replicate j true).map V.bl)) ∧ Same H2 H3) ⟨upd_same, Same.new (Same.refl H2) hD2⟩ (fun i H3 _ h => SqL.of (h.2 _ _ (s2 _ _ hly))) ?_ ?_
      · rintro j v H3 hj ⟨eD3, s3⟩
        obtain ⟨d, hd2, hdp⟩ := dpAll_get hys hj
        obtain ⟨r, hr2, rfl⟩ : ∃ r, qs[j]? = some r ∧ d = r.d := by
          rw [List.getElem?_map] at hd2
          cases e : qs[j]? with
          | none =>
            rw [e] at hd2
            cases hd2
          | some y =>
            rw [e] at hd2
            exact ⟨y, rfl, (Option.some.inj hd2).symm⟩
        have jl := (List.getElem?_eq_some_iff.mp hr2).1
        refine ⟨rfl, ?_⟩
        refine ⟨_, rfl, v, r, rfl, hdp.same (s2.trans s3), hqo r (List.mem_of_getElem? hr2), fun H4 s4 => ⟨_, s4 _ _ eD3, (by rw [List.length_map, List.length_replicate, sizeLine_eq]; omega), ?_, Same.put (s3.trans s4) hD2⟩⟩
        rw [upd_same, List.replicate_succ', List.map_append]
        rfl
      · rintro H3 ⟨eD3, s3⟩
        refine ⟨D2, _, rfl, SqL.of eD3, _, s3 _ _ eD, (by rw [List.length_map, List.length_replicate, sizeLine_eq]; omega), ?_, Same.put (s2.trans s3) hD⟩
        rw [upd_same, List.replicate_succ', List.map_append]
        have : ∀ n : Nat, ((List.replicate n true).all id) = true := fun n => by
          rw [List.all_eq_true]
          intro b hb
          exact (List.mem_replicate.mp hb).2
        rw [this]
        rfl
    · rintro H2 ⟨eD, s2⟩
      exact ⟨D, _, rfl, SqL.of eD, k H2 s2⟩
end
end Rb
namespace Rb
open PySem PySem.Spec PyProof.Rows L2
def CD (K : PySem.W.Frag) : Addr := He.ga K "Device"
def spDevN (K : PySem.W.Frag) : Sp := fun vs H Q _ => ∃ (o d m : Addr) (i : Int), vs = [.ref o, .ref m, .int i] ∧ H o = some (.ins (CD K) d []) ∧ H d = some (.own o) ∧ ∀ H', (∀ c u, H c = some u → c ≠ o → H' c = some u) → Q .non H'
def spFree (K : PySem.W.Frag) : Sp := fun vs H Q _ => ∃ (mm : Addr) (X : DV), vs = [.ref X.o] ∧ DrvAt K H mm X ∧ ∀ p, H p = none → Q (.ref p) (upd H p (.lst (X.free.map .int)))
def spDrvDone (K : PySem.W.Frag) : Sp := fun vs H Q _ => ∃ (mm : Addr) (X : DV), vs = [.ref X.o] ∧ DrvAt K H mm X ∧ X.es.length ≤ 60 ∧ ∀ H', Same H H' → Q (.bl (X.es.all fun x => x.an.isSome)) H'
def wayD (ws : List SX) : List PyData := ws.map fun x => .tuple [.int (x.k : Int), .int (x.k : Int), .int ((x.k + 2 : Nat) : Int)]
def spWay (K : PySem.W.Frag) : Sp := fun vs H Q _ => ∃ (mm : Addr) (X : DV), vs = [.ref X.o] ∧ DrvAt K H mm X ∧ X.Wk ∧ NewL K H (wayD X.ws) Q
section
variable {P : Program} {w : World} {K : PySem.W.Frag} {mg : Str → Option Value} {base : Heap}
theorem ok_free (T : Top K mg) : FnC P w K mg base CX0 1 (He.ma K (He.ga K "Driver") "free_frames") (spFree K) := by
  refine fnc0 T.d_Driver_free_frames sc_Driver_free_frames (fun _ _ _ _ _ _ us hl => match us, hl with | [_], _ => rfl) (fun vs H Q E h => ?_) (fun cdv A outer s H vs Q E hr h => ?_)
  · obtain ⟨mm, X, rfl, _⟩ := h
    rfl
  · obtain ⟨mm, X, rfl, h, k⟩ := h
    refine ⟨_, (pss_one (ps_ret (pe_callTy call_list_of (by rfl) T.b_list (by decide +kernel) (pa_cons (pe_fld (pv 0) rfl) pa_nil)))), ?_⟩
    exact ⟨_, rfl, X.o, CR K, X.d, _, _, rfl, h.oo, T.cl_Driver, T.na_Driver__free, lr_fr, X.fr, _, rfl, .inl (SqL.of h.ofr), fun l hl => k l hl⟩
theorem ok_drv_done (T : Top K mg) : FnC P w K mg base CX0 2 (He.ma K (He.ga K "Driver") "is_done") (spDrvDone K) := by
  have G_Clients_is_done := ok_done (P := P) (w := w) (base := base) T
  refine fnc0 T.d_Driver_is_done sc_Driver_is_done (fun _ _ _ _ _ _ us hl => match us, hl with | [_], _ => rfl) (fun vs H Q E h => ?_) (fun cdv A outer s H vs Q E hr h => ?_)
  · obtain ⟨mm, X, rfl, _⟩ := h
    rfl
  · obtain ⟨mm, X, rfl, h, hl, k⟩ := h
    refine ⟨_, (pss_one (ps_ret (pe_m0 G_Clients_is_done hr (by decide) T.cl_Clients T.me_Clients_is_done pass0 (pe_fld (pv 0) rfl)))), ?_⟩
    exact ⟨_, rfl, X.o, CR K, X.d, _, _, rfl, h.oo, T.cl_Driver, T.na_Driver__clients, lr_cl, X.cl, X.cd, _, rfl, h.co.oc, zn (by decide +kernel), mm, X, rfl, h, hl, k⟩
theorem ok_way (T : Top K mg) : FnC P w K mg base CX0 2 (He.ma K (He.ga K "Driver") "under_way") (spWay K) := by
  have G_Driver__sendings := ok_snds (P := P) (w := w) (base := base) T
  refine fnc0 T.d_Driver_under_way sc_Driver_under_way (fun _ _ _ _ _ _ us hl => match us, hl with | [_], _ => rfl) (fun vs H Q E h => ?_) (fun cdv A outer s H vs Q E hr h => ?_)
  · obtain ⟨mm, X, rfl, _⟩ := h
    rfl
  · obtain ⟨mm, X, rfl, h, hk, k⟩ := h
    refine ⟨_, (pss_one (ps_ret (pe_lc (own := [("sending", 1)]) (g := gName 1) (tt := tYes) rfl sc_Driver_under_way.nd (pi_list (pe_m0 G_Driver__sendings hr (by decide) T.cl_Driver T.me_Driver__sendings pass0 (pv 0))) (blkOk_by (N := ["self", "sending"]) (sc := defScope s_Driver_under_way) (by decide +kernel)) (fun _ _ _ _ _ => (pg_name (i := 1) sc_Driver_under_way.nd rfl (Or.inl rfl))) (fun _ _ _ _ _ => pts_nil) (fun _ _ _ _ _ => (pe_tup (pa_cons (pe_fldK (K := K) rfl (pv 1) rfl) (pa_cons (pe_fldK (K := K) rfl (pv 1) rfl) (pa_cons (pe_fldK (K := K) rfl (pv 1) rfl) pa_nil)))))))), ?_⟩
    refine ⟨_, rfl, X.o, X.d, _, rfl, h.oo, zn (by decide +kernel), mm, X, rfl, h, hk, fun p H1 fp s1 ep => ⟨p, rfl, ⟨_, SqL.of ep⟩, fun D hD => ?_⟩⟩
    refine lc_list (K := K) (a := p) (xs := X.ws.map fun x => V.ref x.j) (fun i H2 => AccL K H1 D (wayD (X.ws.take i)) H2) (AccL.start hD) (fun i H2 _ ⟨_, _, _, s⟩ => SqL.of (s _ _ ep)) ?_ ?_
    · rintro i x H2 hi a
      obtain ⟨y, hy, rfl⟩ := ref_at hi
      obtain ⟨vs, e2, hvs, s2⟩ := id a
      obtain ⟨rv, ej, _⟩ := (h.snd (List.mem_of_getElem? hy)).oj
      have e := (s1.trans s2) _ _ ej
      refine ⟨rfl, ?_⟩
      refine ⟨_, rfl, y.j, CS K, y.d, _, _, rfl, e, T.cl_Sending, T.na_Sending_tag, ls_tg, _, rfl, y.j, CS K, y.d, _, _, rfl, e, T.cl_Sending, T.na_Sending_index, ls_ix, _, rfl, y.j, CS K, y.d, _, _, rfl, e, T.cl_Sending, T.na_Sending_frame, ls_fr, (by show 3 ≤ sizeLine; decide), fun q fq => ?_⟩
      unfold wayD at a ⊢
      rw [List.take_add_one, hy, List.map_append]
      refine a.put hD (Same.new (o := HO.tup [V.int (y.k : Int), .int (y.k : Int), .int ((y.k + 2 : Nat) : Int)]) (Same.refl _) fq) (.tup (SqT.of upd_same) (.cons (.int _) (.cons (.int _) (.cons (.int _) .nil)))) (noLs_map (fun _ => rfl) _) rfl ?_
      rw [List.length_map]
      have := hk.n
      have := List.length_take (l := X.ws) (i := i)
      omega
    · intro H2 a
      rw [List.length_map, List.take_length] at a
      exact (k.same s1).of hD a
theorem ok_dev_init (T : Top K mg) : FnC P w K mg base CX0 1 (He.ma K (He.ga K "Device") "__init__") (spDevN K) := by
  refine fnc0 T.d_Device___init__ sc_Device___init__ (fun _ _ _ _ _ _ us hl => match us, hl with | [_, _, _], _ => rfl) (fun vs H Q E h => ?_) (fun cdv A outer s H vs Q E hr h => ?_)
  · obtain ⟨o, d, m, i, rfl, _⟩ := h
    rfl
  · obtain ⟨o, d, m, i, rfl, ho, hd, k⟩ := h
    refine ⟨_, (pss_cons (ps_fld (pv 0) pe_int rfl)
    (pss_cons (ps_fld (pv 0) pe_int rfl)
    (pss_cons (ps_fld (pv 0) pe_int rfl)
    (pss_cons (ps_fld (pv 0) (pv 1) rfl)
    (pss_cons (ps_fld (pv 0) (pv 2) rfl)
    (pss_cons (ps_fld (pv 0) (pe_lst pa_nil) rfl)
    (pss_one (ps_fld (pv 0) pe_non rfl)))))))), ?_⟩
    refine ⟨_, rfl, o, CD K, d, List.zip [] [], rfl, ho, T.cl_Device, T.na_Device_generation, (by decide), ?_⟩
    refine ⟨_, rfl, o, CD K, d, List.zip ["generation"] [.int 0], rfl, (by rw [upd_same, zx (by decide +kernel) rfl]; rfl), T.cl_Device, T.na_Device_taken, (by show 1 < 1000; decide), ?_⟩
    refine ⟨_, rfl, o, CD K, d, List.zip ["generation", "taken"] [.int 0, .int 0], rfl, (by rw [upd_same, zx (by decide +kernel) rfl]; rfl), T.cl_Device, T.na_Device_completed, (by show 2 < 1000; decide), ?_⟩
    refine ⟨_, rfl, _, rfl, o, CD K, d, List.zip ["generation", "taken", "completed"] [.int 0, .int 0, .int 0], rfl, (by rw [upd_same, zx (by decide +kernel) rfl]; rfl), T.cl_Device, T.na_Device__memory, (by show 3 < 1000; decide), ?_⟩
    refine ⟨_, rfl, _, rfl, o, CD K, d, List.zip ["generation", "taken", "completed", "_memory"] [.int 0, .int 0, .int 0, .ref m], rfl, (by rw [upd_same, zx (by decide +kernel) rfl]; rfl), T.cl_Device, T.na_Device__device, (by show 4 < 1000; decide), ?_⟩
    refine ⟨(by show 0 ≤ sizeLine; exact Nat.zero_le _), fun p fp => ?_⟩
    obtain ⟨np1, fp1⟩ := free_upd fp
    obtain ⟨_, fp1⟩ := free_upd fp1
    obtain ⟨_, fp1⟩ := free_upd fp1
    obtain ⟨_, fp1⟩ := free_upd fp1
    obtain ⟨_, fp1⟩ := free_upd fp1
    refine ⟨_, rfl, o, CD K, d, List.zip ["generation", "taken", "completed", "_memory", "_device"] [.int 0, .int 0, .int 0, .ref m, .int i], rfl, (by rw [upd_ne np1.symm, upd_same, zx (by decide +kernel) rfl]; rfl), T.cl_Device, T.na_Device__jobs, (by show 5 < 1000; decide), ?_⟩
    refine ⟨_, rfl, o, CD K, d, List.zip ["generation", "taken", "completed", "_memory", "_device", "_jobs"] [.int 0, .int 0, .int 0, .ref m, .int i, .ref p], rfl, (by rw [upd_same, zx (by decide +kernel) rfl]; rfl), T.cl_Device, T.na_Device__pending, (by show 6 < 1000; decide), ?_⟩
    refine k _ fun c u e n => ?_
    rw [upd_ne n, upd_ne n, upd_ne (ne_of_none e fp1), upd_ne n, upd_ne n, upd_ne n, upd_ne n, upd_ne n]
    exact e
end
end Rb
namespace Rb
open PySem PySem.Spec PyProof.Rows L2
/-! ### the world -/
def CW (K : PySem.W.Frag) : Addr := He.ga K "World"
def wNames : List Str := ["memory", "drivers", "devices", "_liars"]
def wFld (m dl vl ll : Addr) : List (Str × V) := List.zip wNames [.ref m, .ref dl, .ref vl, .ref ll]
section
variable {m dl vl ll : Addr}
theorem lw_m : (wFld m dl vl ll).lookup ("memory" : Str) = some (.ref m) := zl (i := 0) (by decide +kernel) rfl
theorem lw_d : (wFld m dl vl ll).lookup ("drivers" : Str) = some (.ref dl) := zl (i := 1) (by decide +kernel) rfl
end
theorem Abs.up {K : PySem.W.Frag} {H : Hp} {L : ML} {M : MS} {A : AM} {N : Nat} (h : Abs K H L M A N) : Abs K H L M A (N + 1) := { h with s0 := Nat.le_succ_of_le h.s0, s1 := fun d hd => Nat.le_succ_of_le (h.s1 d hd), s2 := fun d hd => Nat.le_succ_of_le (h.s2 d hd), s3 := fun d hd => by have := h.s3 d hd; omega }
def spNamed (K : PySem.W.Frag) : Sp := fun vs H Q _ => ∃ (a : Addr) (wd : Str) (d : Nat), vs = [.ref a] ∧ SqT K H a [.str wd, .int (d : Int)] ∧ d < 2 ∧ Q (.bl true) H
def spPlG (K : PySem.W.Frag) : Sp := fun vs H Q _ => ∃ (o wd dl vl ll : Addr) (L : ML) (M : MS) (A : AM) (N : Nat), vs = [.ref o, .int 0] ∧ H o = some (.ins (CW K) wd (wFld L.m dl vl ll)) ∧ Abs K H L M A N ∧ MI A ∧ N < 2900 ∧
  ∀ b A' M' H', Abs K H' L M' A' (N + 1) → MI A' → A'.tix 0 = A.tix 0 → KS L.all H H' → Q (.bl b) H'
section
variable {P : Program} {w : World} {K : PySem.W.Frag} {mg : Str → Option Value} {base : Heap}
theorem ok_named (T : Top K mg) : FnC P w K mg base CX0 3 (He.ga K "names_device") (spNamed K) := by
  have G_is_number := ok_is_number (P := P) (w := w) (base := base) T
  refine fnc0 T.d_names_device sc_names_device (fun _ _ _ _ _ _ us hl => match us, hl with | [_], _ => rfl) (fun vs H Q E h => ?_) (fun cdv A outer s H vs Q E hr h => ?_)
  · obtain ⟨a, wd, d, rfl, _⟩ := h
    rfl
  · obtain ⟨a, wd, d, rfl, ha, hd, k⟩ := h
    refine ⟨_, (pss_one (ps_ret (pe_and (pe_cmpR op_isTyB (pe_callTy call_type1 (by rfl) T.b_type (by decide +kernel) (pa_cons (pv 0) pa_nil)) (pe_bltn (v := .ty "tuple") (by rfl) T.b_tuple (by decide +kernel) rfl) (nomark _)) (pe_and (pe_cmpR op_gt (pe_callB call_len_seq (by rfl) T.b_len PySem.boot_len (pa_cons (pv 0) pa_nil)) pe_int (nomark _)) (pe_one (pe_f G_is_number hr (by decide) (by rfl) T.g_is_number pass0 (pa_cons (pe_ix ix_tup (pv 0) pe_int (fun _ _ => rfl)) (pa_cons (pe_gc (by rfl) T.c_DEVICES) pa_nil)))))))), ?_⟩
    refine ⟨_, rfl, _, _, rfl, .tup ha, _, _, rfl, rfl, ?_⟩
    refine ⟨_, rfl, iteY rfl ?_⟩
    refine ⟨_, rfl, a, _, rfl, .inr ha, _, _, rfl, rfl, ?_⟩
    refine ⟨_, rfl, iteY rfl ?_⟩
    refine ⟨_, rfl, a, _, ((1 : Nat) : Int), .int (d : Int), rfl, rfl, ha, atI_n (j := 1) rfl, _, _, _, rfl, .int _, ?_⟩
    rw [show isNum (.int (d : Int)) 2 = true from isNum_nat (n := 2) hd]
    exact k
theorem ok_plg (T : Top K mg) (TB : ∃ es n, KDict K w (He.ga K "FORMS") es n) : FnC P w K mg base CX0 8 (He.ma K (He.ga K "World") "_play_guard") (spPlG K) := by
  have G_Guard_queue := ok_Guard_queue (P := P) (w := w) (base := base) T
  have G_Memory_access := ok_acc (P := P) (w := w) (base := base) T TB
  refine fnc0 T.d_World__play_guard sc_World__play_guard (fun _ _ _ _ _ _ us hl => match us, hl with | [_, _], _ => rfl) (fun vs H Q E h => ?_) (fun cdv A outer s H vs Q E hr h => ?_)
  · obtain ⟨o, wd, dl, vl, ll, L, M, A, N, rfl, _⟩ := h
    rfl
  · obtain ⟨o, wd, dl, vl, ll, L, M, A, N, rfl, ho, hA, hM, hN, k⟩ := h
    refine ⟨_, (pss_cons (ps_if (pt_not (pt_truth (pe_m0 G_Guard_queue hr (by decide) T.cl_Guard T.me_Guard_queue pass0 (pe_ix ix_list (pe_fld (pe_fld (pv 0) rfl) rfl) (pv 1) (fun _ _ => rfl))) (fun _ => rfl))) (pss_one (ps_ret pe_bl)) pss_nil)
    (pss_cons (ps_expr (pe_m G_Memory_access hr (by decide) T.cl_Memory T.me_Memory_access passL (pe_fld (pv 0) rfl) (pa_cons (pe_tup (pa_cons pe_str (pa_cons (pv 1) pa_nil))) (pa_cons (pe_tup (pa_cons pe_str pa_nil)) pa_nil))))
    (pss_one (ps_ret pe_bl)))), ?_⟩
    refine ⟨_, rfl, o, CW K, wd, _, _, rfl, ho, T.cl_World, T.na_World_memory, lw_m, L.m, CM K, L.d, _, _, rfl, hA.mem.om, T.cl_Memory, T.na_Memory_guards, zl (i := 1) (by decide +kernel) rfl, _, rfl, L.aG, _, ((0 : Nat) : Int), .ref (L.gs 0).g, rfl, rfl, SqL.of hA.mem.og, atI_n (j := 0) rfl, ?_⟩
    have hg := hA.mem.gu 0 (by decide)
    refine ⟨(L.gs 0).g, (L.gs 0).d, _, rfl, hg.og, zn (by decide +kernel), L.gs 0, M.gs 0, rfl, hg, fun p fp => ?_⟩
    have s1 := Same.new (o := HO.lst (M.gs 0).que) (Same.refl _) fp
    have hA1 := hA.same s1
    refine ⟨_, .inl ⟨_, SqL.of upd_same, rfl⟩, ?_⟩
    by_cases c : (M.gs 0).que = []
    · refine iteY ?_ (k false A M _ hA1.up hM rfl (KS.of s1))
      rw [c]
      rfl
    refine iteN ?_ ?_
    · cases e : (M.gs 0).que with
      | nil => exact absurd e c
      | cons a b => simp
    have ho1 := s1 _ _ ho
    refine ⟨_, rfl, o, CW K, wd, _, _, rfl, ho1, T.cl_World, T.na_World_memory, lw_m, L.m, L.d, _, rfl, hA1.mem.om, zn (by decide +kernel), _, rfl, (by show 2 ≤ sizeLine; decide), fun a fa => ?_⟩
    have s2 := Same.new (o := HO.tup [V.str "guard", .int 0]) (Same.refl _) fa
    refine ⟨(by show 1 ≤ sizeLine; decide), fun q fq => ?_⟩
    have s3 := Same.new (o := HO.tup [V.str "drop"]) (Same.refl _) fq
    obtain ⟨rd, A2, ok, g2, tx⟩ := drop_step hM
    dsimp only [tNil, List.append_nil]
    refine ok.acc ((hA1.same s2).same s3) hN (by decide) (SqT.of (s3 _ _ upd_same)) (SqT.of upd_same) .nil fun u r H4 M4 a4 hr4 nr kl hu eu => ?_
    exact k true _ M4 H4 a4 g2.log tx ((KS.of (s1.trans (s2.trans s3))).trans kl)
end
end Rb
namespace Rb
open PySem PySem.Spec PyProof.Rows L2
def spAct (K : PySem.W.Frag) : Sp := fun vs H Q E => ∃ (o a wd dl vl ll mm xo d1 : Addr), vs = [.ref o, .ref a] ∧ H o = some (.ins (CW K) wd (wFld mm dl vl ll)) ∧ H dl = some (.lst [.ref xo, .ref d1]) ∧
  ((SqT K H a [.str "driver", .int ((0 : Nat) : Int)] ∧ spStep K [.ref xo] H Q E0) ∨ (SqT K H a [.str "guard", .int ((0 : Nat) : Int)] ∧ spPlG K [.ref o, .int 0] H Q E0))
def spPlay (K : PySem.W.Frag) : Sp := fun vs H Q E => ∃ (o p a wd dl vl ll mm xo d1 : Addr), vs = [.ref o, .ref p] ∧ H p = some (.lst [.ref a]) ∧ H o = some (.ins (CW K) wd (wFld mm dl vl ll)) ∧ H dl = some (.lst [.ref xo, .ref d1]) ∧
  ∃ R : V → Addr → Hp → Prop, (∀ v D H', R v D H' → H' D = some (.lst []) ∧ H' p = some (.lst [.ref a]) ∧ p ≠ D ∧ Q (.ref D) (upd H' D (.lst [v]))) ∧
  ∀ D, H D = none → ∀ Q' : VK, (∀ v H', R v D H' → Q' v H') → spAct K [.ref o, .ref a] (upd H D (.lst [])) Q' E0
section
variable {P : Program} {w : World} {K : PySem.W.Frag} {mg : Str → Option Value} {base : Heap}
theorem dead_dev (T : Top K mg) : FnC P w K mg base CX0 1 (He.ma K (He.ga K "World") "_play_device") (fun _ _ _ _ => False) := by
  refine fnc0 T.d_World__play_device sc_World__play_device (fun _ _ _ _ _ _ us hl => match us, hl with | [_, _, _], _ => rfl) (fun vs H Q E h => ?_) (fun cdv A outer s H vs Q E hr h => ?_)
  · exact h.elim
  · exact h.elim
theorem dead_lie (T : Top K mg) : FnC P w K mg base CX0 1 (He.ma K (He.ga K "World") "_play_lie") (fun _ _ _ _ => False) := by
  refine fnc0 T.d_World__play_lie sc_World__play_lie (fun _ _ _ _ _ _ us hl => match us, hl with | [_, _, _], _ => rfl) (fun vs H Q E h => ?_) (fun cdv A outer s H vs Q E hr h => ?_)
  · exact h.elim
  · exact h.elim
theorem ok_act (T : Top K mg) (TB : ∃ es n, KDict K w (He.ga K "FORMS") es n) : FnC P w K mg base CX0 10 (He.ma K (He.ga K "World") "_play_act") (spAct K) := by
  have G_names_device := ok_named (P := P) (w := w) (base := base) T
  have G_World__play_device := dead_dev (P := P) (w := w) (base := base) T
  have G_World__play_lie := dead_lie (P := P) (w := w) (base := base) T
  have G_World__play_guard := ok_plg (P := P) (w := w) (base := base) T TB
  have G_Driver_step := ok_step (P := P) (w := w) (base := base) T TB
  refine fnc0 T.d_World__play_act sc_World__play_act (fun _ _ _ _ _ _ us hl => match us, hl with | [_, _], _ => rfl) (fun vs H Q E h => ?_) (fun cdv A outer s H vs Q E hr h => ?_)
  · obtain ⟨o, a, wd, dl, vl, ll, mm, xo, d1, rfl, _⟩ := h
    rfl
  · obtain ⟨o, a, wd, dl, vl, ll, mm, xo, d1, rfl, ho, hdl, hc⟩ := h
    refine ⟨_, (pss_cons (ps_if (pt_not (pt_val (pe_f G_names_device hr (by decide) (by rfl) T.g_names_device pass0 (pa_cons (pv 1) pa_nil)))) (pss_one (ps_ret pe_bl)) pss_nil)
    (pss_cons (ps_match (pv 1) (pc_cons sc_World__play_act.nd (pm_seq rfl (pms_cons pm_word (pms_cons (pm_name (i := 2) rfl (Or.inl rfl)) pms_nil)))
    (pss_one (ps_ret (pe_m0 G_Driver_step hr (by decide) T.cl_Driver T.me_Driver_step pass0 (pe_ix ix_list (pe_fld (pv 0) rfl) (pv 2) (fun _ _ => rfl)))))
    (pc_cons sc_World__play_act.nd (pm_seq rfl (pms_cons pm_word (pms_cons (pm_name (i := 2) rfl (Or.inl rfl)) (pms_cons (pm_name (i := 3) rfl (Or.inl rfl)) pms_nil))))
    (pss_one (ps_ret (pe_m G_World__play_device hr (by decide) T.cl_World T.me_World__play_device pass0 (pv 0) (pa_cons (pv 2) (pa_cons (pv 3) pa_nil)))))
    (pc_cons sc_World__play_act.nd (pm_seq rfl (pms_cons pm_word (pms_cons (pm_name (i := 2) rfl (Or.inl rfl)) pms_nil)))
    (pss_one (ps_ret (pe_m G_World__play_guard hr (by decide) T.cl_World T.me_World__play_guard pass0 (pv 0) (pa_cons (pv 2) pa_nil))))
    (pc_cons sc_World__play_act.nd (pm_seq rfl (pms_cons pm_word (pms_cons (pm_name (i := 2) rfl (Or.inl rfl)) (pms_cons (pm_name (i := 4) rfl (Or.inl rfl)) pms_nil))))
    (pss_one (ps_ret (pe_m G_World__play_lie hr (by decide) T.cl_World T.me_World__play_lie pass0 (pv 0) (pa_cons (pv 2) (pa_cons (pv 4) pa_nil)))))
    pc_nil)))))
    (pss_one (ps_ret pe_bl)))), ?_⟩
    rcases hc with ⟨ha, hs⟩ | ⟨ha, hs⟩
    · refine ⟨_, rfl, a, _, 0, rfl, ha, by decide, _, rfl, iteN (by decide) ?_⟩
      refine ⟨_, rfl, ?_⟩
      refine hit_word ha rfl (mn_name mn_nil) ?_
      obtain ⟨L, M, A, N, X, e, hX, _⟩ := id hs
      injection e with e
      injection e with e
      refine ⟨_, rfl, o, CW K, wd, _, _, rfl, ho, T.cl_World, T.na_World_drivers, lw_d, _, rfl, dl, _, ((0 : Nat) : Int), .ref xo, rfl, rfl, SqL.of hdl, atI_n (j := 0) rfl, xo, X.d, _, rfl, (by rw [e]; exact hX.oo), zn (by decide +kernel), ?_⟩
      exact hs
    · refine ⟨_, rfl, a, _, 0, rfl, ha, by decide, _, rfl, iteN (by decide) ?_⟩
      refine ⟨_, rfl, ?_⟩
      refine miss_word ha (by decide) ?_
      refine miss_word ha (by decide) ?_
      refine hit_word ha rfl (mn_name mn_nil) ?_
      exact ⟨_, rfl, o, wd, _, rfl, ho, zn (by decide +kernel), _, rfl, hs⟩
end
end Rb
namespace Rb
open PySem PySem.Spec PyProof.Rows L2
section
variable {P : Program} {w : World} {K : PySem.W.Frag} {mg : Str → Option Value} {base : Heap}
theorem ok_law_next (T : Top K mg) : FnC P w K mg base CX0 1 (He.ga K "_law_next") spNext := by
  refine fnc0 T.d__law_next sc__law_next (fun _ _ _ _ _ _ us hl => match us, hl with | [_, _], _ => rfl) (fun vs H Q E h => ?_) (fun cdv A outer s H vs Q E hr h => ?_)
  · obtain ⟨t, l, m, rfl, _⟩ := h
    rfl
  · obtain ⟨t, l, m, rfl, ⟨s0, hl0, hT⟩, h0, h1, k⟩ := h
    refine ⟨_, (pss_cons (ps_set (i := 2) sc__law_next.nd rfl (Or.inl rfl) (pe_ix ix_list (pv 0) pe_int (fun _ _ => rfl)))
    (pss_cons (ps_if (pt_cmpR op_gt (pv 2) pe_int (nomark _)) (pss_cons (ps_asg (pe_op op_fdiv (pv 2) (pv 1)) (pg_sub (pv 0) pe_int set_list))
    (pss_one (ps_ret (pe_op op_mod (pe_callTy call_int1 (by rfl) T.b_int (by decide +kernel) (pa_cons (pv 2) pa_nil)) (pv 1))))) pss_nil)
    (pss_cons (ps_set (i := 3) sc__law_next.nd rfl (Or.inl rfl) pe_int)
    (pss_cons (ps_join (ps_if (pt_cmpR op_lt (pe_ix ix_list (pv 0) pe_int (fun _ _ => rfl)) (pe_callB call_len_seq (by rfl) T.b_len PySem.boot_len (pa_cons (pe_ix ix_list (pv 0) pe_int (fun _ _ => rfl)) pa_nil)) (nomark _)) (pss_cons (ps_set (i := 3) sc__law_next.nd rfl (Or.inl rfl) (pe_callB call_abs (by rfl) T.b_abs (by decide +kernel) (pa_cons (pe_ix ix_list (pe_ix ix_list (pv 0) pe_int (fun _ _ => rfl)) (pe_ix ix_list (pv 0) pe_int (fun _ _ => rfl)) (fun _ _ => rfl)) pa_nil)))
    (pss_one (ps_augS (pv 0) pe_int get_list pe_int ip_add set_list))) pss_nil))
    (pss_cons (ps_if (pt_cmpR op_ge (pv 3) (pe_op op_pow pe_int pe_int) (nomark _)) (pss_cons (ps_asg (pe_op op_fdiv (pv 3) (pv 1)) (pg_sub (pv 0) pe_int set_list))
    (pss_one (ps_ret (pe_op op_mod (pe_callTy call_int1 (by rfl) T.b_int (by decide +kernel) (pa_cons (pv 3) pa_nil)) (pv 1))))) pss_nil)
    (pss_cons (ps_asg (pe_op op_mod (pe_callTy call_int1 (by rfl) T.b_int (by decide +kernel) (pa_cons (pe_op op_add (pe_op op_add (pe_op op_mul (pe_ix ix_list (pv 0) pe_int (fun _ _ => rfl)) pe_int) (pe_op op_mul (pv 3) pe_int)) pe_int) pa_nil)) pe_int) (pg_sub (pv 0) pe_int set_list))
    (pss_one (ps_ret (pe_op op_mod (pe_callTy call_int1 (by rfl) T.b_int (by decide +kernel) (pa_cons (pe_op op_fdiv (pe_op op_mod (pe_op op_mul (pe_ix ix_list (pv 0) pe_int (fun _ _ => rfl)) pe_int) pe_int) pe_int) pa_nil)) (pv 1)))))))))), ?_⟩
    have hq := SqL.of (K := K) hT.ot
    refine ⟨_, rfl, t, _, _, _, rfl, rfl, hq, rfl, ?_⟩
    refine ⟨_, rfl, _, _, rfl, rfl, _, rfl, ?_⟩
    refine ite2 (fun c => ?_) (fun c => ?_)
    · refine ⟨_, rfl, _, rfl, _, _, rfl, rfl, ⟨h0, by omega⟩, _, rfl, t, _, _, 2, rfl, rfl, hT.ot, rfl, ?_⟩
      refine ⟨_, rfl, .inl ⟨_, rfl, _, rfl, _, _, rfl, rfl, h0, ?_⟩⟩
      refine k _ _ (Kp.refl.upd) ⟨{ s0 with rest := s0.rest / m }, hl0, upd_same, ?_, hT.ne, hT.hl, hT.hp, Int.ediv_nonneg hT.h0 (Int.le_of_lt h0), hT.h1, hT.h2⟩ (Int.emod_nonneg _ (Int.ne_of_gt h0)) (Int.emod_lt_of_pos _ h0)
      rw [upd_ne hT.ne]
      exact hT.ol
    have c0 : s0.rest = 0 := by
      have := of_decide_eq_false (by simpa using c : decide ((0 : Int) < s0.rest) = false)
      have := hT.h0
      omega
    refine ⟨fun σ' H' => ∃ s1 cell x2, TpOk H' t s1 ∧ s1.l = l ∧ Kp t H H' ∧ 0 ≤ cell ∧ σ' = [some (.ref t), some (.int m), x2, some (.int cell)], ?_, ?_⟩
    · refine ⟨_, rfl, t, _, _, _, rfl, rfl, hq, rfl, _, rfl, t, _, _, _, rfl, rfl, hq, rfl, s0.l, _, rfl, .inl (SqL.of hT.ol), _, _, rfl, rfl, _, rfl, ?_⟩
      rw [List.length_map]
      refine ite2 (fun c => ?_) (fun c => ?_)
      · have hlt : s0.pos < s0.ns.length := by
          have := of_decide_eq_true c
          omega
        have hx : (s0.ns.map V.int)[s0.pos]? = some (V.int s0.ns[s0.pos]) := by
          rw [List.getElem?_map, List.getElem?_eq_getElem hlt]
          rfl
        have hp := hT.hp
        have hl := hT.hl
        refine ⟨_, rfl, t, _, _, _, rfl, rfl, hq, rfl, _, rfl, t, _, _, _, rfl, rfl, hq, rfl, s0.l, _, _, _, rfl, rfl, SqL.of hT.ol, atI_n hx, _, rfl, ?_⟩
        refine ⟨_, rfl, t, _, _, _, rfl, rfl, by decide, by decide, hq, rfl, _, _, rfl, rfl, t, _, _, 1, rfl, rfl, hT.ot, rfl, ?_⟩
        refine ⟨{ s0 with pos := s0.pos + 1 }, _, _, ⟨upd_same, ?_, hT.ne, hT.hl, hlt, hT.h0, hT.h1, hT.h2⟩, hl0, Kp.refl.upd, ?_, rfl⟩
        · rw [upd_ne hT.ne]
          exact hT.ol
        · split <;> omega
      · exact ⟨s0, _, _, hT, hl0, Kp.refl, Int.le_refl _, rfl⟩
    rintro σ' H' ⟨s1, cell, x2, hT1, hl1, kp, hc, rfl⟩
    have hq1 := SqL.of (K := K) hT1.ot
    refine ⟨_, rfl, _, _, rfl, rfl, ⟨by decide, by decide, by decide⟩, _, _, rfl, rfl, _, rfl, ?_⟩
    refine ite2 (fun c => ?_) (fun c => ?_)
    · refine ⟨_, rfl, _, rfl, _, _, rfl, rfl, ⟨h0, by omega⟩, _, rfl, t, _, _, 2, rfl, rfl, hT1.ot, rfl, ?_⟩
      refine ⟨_, rfl, .inl ⟨_, rfl, _, rfl, _, _, rfl, rfl, h0, ?_⟩⟩
      refine k _ _ kp.upd ⟨{ s1 with rest := cell / m }, hl1, upd_same, ?_, hT1.ne, hT1.hl, hT1.hp, Int.ediv_nonneg hc (Int.le_of_lt h0), hT1.h1, hT1.h2⟩ (Int.emod_nonneg _ (Int.ne_of_gt h0)) (Int.emod_lt_of_pos _ h0)
      rw [upd_ne hT1.ne]
      exact hT1.ol
    have g1 := hT1.h1
    have g2 := hT1.h2
    refine ⟨_, rfl, t, _, _, _, rfl, rfl, hq1, rfl, _, _, rfl, rfl, .inl ⟨by omega, by omega⟩, _, rfl, _, _, rfl, rfl, .inr ⟨by decide, by decide⟩, _, _, rfl, rfl, _, _, rfl, rfl, .inl ⟨_, rfl, _, _, rfl, rfl, (by show (0 : Int) < 2147483647; decide), ?_⟩⟩
    refine ⟨_, rfl, t, _, _, 3, rfl, rfl, hT1.ot, rfl, ?_⟩
    have e2 : upd H' t (HO.lst ([V.ref s1.l, .int (s1.pos : Int), .int s1.rest, .int s1.seed].set 3 (V.int ((s1.seed * 48271 + cell * 69621 + 11) % 2147483647)))) t = _ := upd_same
    have b0 := Int.emod_nonneg (s1.seed * 48271 + cell * 69621 + 11) (show (2147483647 : Int) ≠ 0 by decide)
    have b1 := Int.emod_lt_of_pos (s1.seed * 48271 + cell * 69621 + 11) (show (0 : Int) < 2147483647 by decide)
    refine ⟨_, rfl, t, _, _, _, rfl, rfl, SqL.of e2, rfl, _, _, rfl, rfl, .inl ⟨by omega, by omega⟩, _, _, rfl, rfl, (by show (0 : Int) < 2147483647; decide), _, _, rfl, rfl, ⟨by decide, by decide⟩, .inl ⟨_, rfl, _, rfl, _, _, rfl, rfl, h0, ?_⟩⟩
    refine k _ _ kp.upd ⟨{ s1 with seed := (s1.seed * 48271 + cell * 69621 + 11) % 2147483647 }, hl1, upd_same, ?_, hT1.ne, hT1.hl, hT1.hp, hT1.h0, b0, b1⟩ (Int.emod_nonneg _ (Int.ne_of_gt h0)) (Int.emod_lt_of_pos _ h0)
    rw [upd_ne hT1.ne]
    exact hT1.ol
theorem ok_play (T : Top K mg) (TB : ∃ es n, KDict K w (He.ga K "FORMS") es n) : FnC P w K mg base CX0 11 (He.ma K (He.ga K "World") "play") (spPlay K) := by
  have G_World__play_act := ok_act (P := P) (w := w) (base := base) T TB
  refine fnc0 T.d_World_play sc_World_play (fun _ _ _ _ _ _ us hl => match us, hl with | [_, _], _ => rfl) (fun vs H Q E h => ?_) (fun cdv A outer s H vs Q E hr h => ?_)
  · obtain ⟨o, p, a, wd, dl, vl, ll, mm, xo, d1, rfl, _⟩ := h
    rfl
  · obtain ⟨o, p, a, wd, dl, vl, ll, mm, xo, d1, rfl, hp, ho, hdl, R, hR, k⟩ := h
    refine ⟨_, (pss_one (ps_ret (pe_lc (own := [("act", 2)]) (g := gName 2) (tt := tYes) rfl sc_World_play.nd (pi_list (pv 1)) (blkOk_by (N := ["self", "acts", "act"]) (sc := defScope s_World_play) (by decide +kernel)) (fun _ _ _ _ _ => (pg_name (i := 2) sc_World_play.nd rfl (Or.inl rfl))) (fun _ _ _ _ _ => pts_nil) (fun _ _ _ _ _ => (pe_m G_World__play_act hr (by decide) T.cl_World T.me_World__play_act pass0 (pv 0) (pa_cons (pv 2) pa_nil)))))), ?_⟩
    refine ⟨_, rfl, p, rfl, ⟨_, SqL.of hp⟩, fun D hD => ?_⟩
    have s1 := Same.new (o := HO.lst []) (Same.refl _) hD
    refine lc_list (K := K) (a := p) (xs := [.ref a]) (fun i H2 => (i = 0 ∧ H2 = upd H D (.lst [])) ∨ (i = 1 ∧ Q (.ref D) H2 ∧ H2 p = some (.lst [.ref a]))) (.inl ⟨rfl, rfl⟩) ?_ ?_ ?_
    · rintro i H2 _ (⟨_, rfl⟩ | ⟨_, _, e⟩)
      · exact SqL.of (s1 _ _ hp)
      · exact SqL.of e
    · rintro i x H2 hi hc
      have i0 : i = 0 := by
        have := (List.getElem?_eq_some_iff.mp hi).1
        simp at this
        exact this
      subst i0
      rcases hc with ⟨_, rfl⟩ | ⟨z, _⟩
      · cases hi
        refine ⟨rfl, ?_⟩
        refine ⟨_, rfl, o, wd, _, rfl, s1 _ _ ho, zn (by decide +kernel), _, rfl, ?_⟩
        refine k D hD _ fun v H' r => ?_
        obtain ⟨e1, e2, ne, q⟩ := hR v D H' r
        exact ⟨[], e1, (by rw [sizeLine_eq]; decide), .inr ⟨rfl, q, (upd_ne ne).trans e2⟩⟩
      · cases z
    · rintro H2 (⟨z, _⟩ | ⟨_, q, _⟩)
      · cases z
      · exact q
end
end Rb
namespace Rb
open PySem PySem.Spec PyProof.Rows L2
theorem AccL.put' {K : PySem.W.Frag} {H Hx H4 : Hp} {D : Addr} {ds : List PyData} {vs : List V} {v : V} {d : PyData} (h : AccL K H D ds Hx) (e : Hx D = some (.lst vs)) (hD : H D = none) (s : Same Hx H4) (hv : Dp K H4 v d) (nl : noLs ds = true) (nd : noL d = true) (hl : ds.length < 4000) :
    vs.length < sizeLine ∧ H4 D = some (.lst vs) ∧ AccL K H D (ds ++ [d]) (upd H4 D (.lst (vs ++ [v]))) := by
  obtain ⟨acc, e4, l, a⟩ := h.put hD s hv nl nd hl
  have e5 := s _ _ e
  rw [e5] at e4
  injection e4 with e4
  injection e4 with e4
  subst e4
  exact ⟨l, e5, a⟩
def spSdg (K : PySem.W.Frag) : Sp := fun vs H Q _ => ∃ (k : Nat) (rv : V) (r : RQ), vs = [.int (k : Int), rv] ∧ k < 4 ∧ Dp K H rv r.d ∧ r.Ok ∧ NewL K H (fillD (k + 2) r.cs ++ handD k r) Q
section
variable {P : Program} {w : World} {K : PySem.W.Frag} {mg : Str → Option Value} {base : Heap}
theorem ok_sdg (T : Top K mg) : FnC P w K mg base CX0 4 (He.ga K "_law_sending") (spSdg K) := by
  have G_frame_cell := ok_frame_cell (P := P) (w := w) (base := base) T
  have G_table_word := ok_table_word (P := P) (w := w) (base := base) T
  have G_doorbell := ok_doorbell (P := P) (w := w) (base := base) T
  refine fnc0 T.d__law_sending sc__law_sending (fun _ _ _ _ _ _ us hl => match us, hl with | [_, _], _ => rfl) (fun vs H Q E h => ?_) (fun cdv A outer s H vs Q E hr h => ?_)
  · obtain ⟨n, rv, r, rfl, _⟩ := h
    rfl
  · obtain ⟨n, rv, r, rfl, hn, hrv, ok, k⟩ := h
    obtain ⟨t, rest, rfl, ht, hrest⟩ := rq_two hrv
    refine ⟨_, (pss_cons (ps_set (i := 2) sc__law_sending.nd rfl (Or.inl rfl) (pe_lst pa_nil))
    (pss_cons (ps_set (i := 3) sc__law_sending.nd rfl (Or.inl rfl) pe_str)
    (pss_cons (ps_for PassesOwn.never rfl (pi_range1 (by rfl) T.b_range (pa_cons pe_int pa_nil)) (pg_name (i := 4) sc__law_sending.nd rfl (Or.inl rfl)) (pss_cons (ps_set (i := 5) sc__law_sending.nd rfl (Or.inl rfl) pe_int)
    (pss_cons (ps_if (pt_cmpR op_eq (pe_ix ix_tup (pv 1) pe_int (fun _ _ => rfl)) pe_str (nomark _)) (pss_cons (ps_set (i := 5) sc__law_sending.nd rfl (Or.inl rfl) (pe_ix ix_tup (pe_ix ix_tup (pv 1) pe_int (fun _ _ => rfl)) (pv 4) (fun _ _ => rfl)))
    (pss_one (ps_set (i := 3) sc__law_sending.nd rfl (Or.inl rfl) pe_str))) pss_nil)
    (pss_one (ps_expr (pe_bm PySem.F.plainAttrs_list PySem.F.slot_list_append PySem.F.type_list_append mt_append (pv 2) (pa_cons (pe_tup (pa_cons pe_str (pa_cons (pe_f G_frame_cell hr (by decide) (by rfl) T.g_frame_cell pass0 (pa_cons pe_int (pa_cons (pe_op op_add (pv 0) pe_int) (pa_cons (pv 4) pa_nil)))) (pa_cons (pv 5) pa_nil)))) pa_nil)))))))
    (pss_cons (ps_expr (pe_bm PySem.F.plainAttrs_list PySem.F.slot_list_append PySem.F.type_list_append mt_append (pv 2) (pa_cons (pe_tup (pa_cons pe_str (pa_cons (pe_f G_table_word hr (by decide) (by rfl) T.g_table_word pass0 (pa_cons pe_int (pa_cons (pe_op op_add (pv 0) pe_int) pa_nil))) (pa_cons (pe_tup (pa_cons (pe_op op_add (pv 0) pe_int) (pa_cons (pv 3) pa_nil))) pa_nil)))) pa_nil)))
    (pss_cons (ps_expr (pe_bm PySem.F.plainAttrs_list PySem.F.slot_list_append PySem.F.type_list_append mt_append (pv 2) (pa_cons (pe_tup (pa_cons pe_str (pa_cons (pe_f G_frame_cell hr (by decide) (by rfl) T.g_frame_cell pass0 (pa_cons pe_int (pa_cons pe_int (pa_cons (pv 0) pa_nil)))) (pa_cons (pe_tup (pa_cons (pv 0) (pa_cons (pe_ix ix_tup (pv 1) pe_int (fun _ _ => rfl)) (pa_cons (pe_ix ix_tup (pv 1) pe_int (fun _ _ => rfl)) (pa_cons pe_int (pa_cons (pv 0) pa_nil)))))) pa_nil)))) pa_nil)))
    (pss_cons (ps_expr (pe_bm PySem.F.plainAttrs_list PySem.F.slot_list_append PySem.F.type_list_append mt_append (pv 2) (pa_cons (pe_tup (pa_cons pe_str (pa_cons (pe_f G_doorbell hr (by decide) (by rfl) T.g_doorbell pass0 (pa_cons pe_int pa_nil)) (pa_cons (pe_op op_add (pv 0) pe_int) pa_nil)))) pa_nil)))
    (pss_one (ps_ret (pv 2))))))))), ?_⟩
    refine ⟨(by show 0 ≤ sizeLine; exact Nat.zero_le _), fun p fp => ?_⟩
    have s0 := Same.new (o := HO.lst []) (Same.refl _) fp
    refine ⟨4, rfl, by decide, by decide, for_range (n := 4) (fun i σ H1 => ∃ rt x4 x5, σ = [some (.int (n : Int)), some (.ref t), some (.ref p), some (.str rt), x4, x5] ∧ (i = 0 → rt = "w") ∧ (0 < i → rt = rightS r.wr) ∧ AccL K H p ((List.range i).map (fillR (n + 2) r.cs)) H1) ?_ ?_ ?_⟩
    · exact ⟨"w", none, none, rfl, fun _ => rfl, fun z => absurd z (by decide), AccL.start fp⟩
    · rintro i σ H1 hi ⟨rt, x4, x5, rfl, r0, r1, a⟩
      obtain ⟨vs, e1, hvs, s1⟩ := id a
      have ht1 := Same.seqT s1 ht
      have hrest1 := hrest.same s1
      rw [Int.zero_add]
      refine ⟨_, rfl, t, _, ((0 : Nat) : Int), .str (kindS r.wr), rfl, rfl, ht1, atI_n (j := 0) rfl, rfl, _, rfl, ?_⟩
      cases hw : r.wr with
      | true =>
        refine iteY (by decide +kernel) ?_
        rw [hw, if_pos rfl] at hrest1
        obtain ⟨v2, hv2, dv2⟩ := dpAll_get' hrest1 (i := 0) rfl
        obtain ⟨t2, ys, rfl, ht2, hys⟩ := dp_tup dv2
        have ey := dpAll_ints hys
        subst ey
        have hc4 := ok.c
        have hci : r.con[i]? = some (r.con[i]'(by omega)) := List.getElem?_eq_getElem _
        refine ⟨_, rfl, t, _, ((2 : Nat) : Int), .ref t2, rfl, rfl, ht1, atI_n (j := 2) hv2, _, rfl, t2, _, (i : Int), .int (r.con[i]'(by omega)), rfl, rfl, ht2, atI_n (by rw [List.getElem?_map, hci]; rfl), ?_⟩
        refine ⟨_, rfl, .inl ⟨rfl, _, SqL.of e1⟩, ?_⟩
        refine ⟨_, rfl, _, _, rfl, rfl, _, rfl, _, _, _, rfl, _, rfl, (by show 3 ≤ sizeLine; decide), fun q fq => ?_⟩
        have sq := Same.new (o := HO.tup [V.str "write", .int (fcell 0 ((n : Int) + 2) (i : Int)), .int (r.con[i]'(by omega))]) (Same.refl _) fq
        have ec : fcell 0 ((n : Int) + 2) (i : Int) = (((n + 2) * 4 + i : Nat) : Int) := by
          unfold fcell
          omega
        obtain ⟨l1, e2, a2⟩ := a.put' (v := .ref q) e1 fp sq (d := fillR (n + 2) r.cs i) (by
          unfold fillR
          refine .tup (xs := [V.str "write", .int (fcell 0 ((n : Int) + 2) (i : Int)), .int (r.con[i]'(by omega))]) (SqT.of upd_same) (.cons (.str _) (.cons (by rw [ec]; exact .int _) (.cons ?_ .nil)))
          unfold RQ.cs
          rw [hw]
          rw [if_pos rfl, List.getElem?_map, hci]
          exact .int _) (fill_nl r.cs_nl i) (by
          have := fill_nl (f := n + 2) r.cs_nl (i + 1)
          rw [List.range_succ, List.map_append, noLs_app] at this
          exact (and2 (show (noL (fillR (n + 2) r.cs i) && true) = true from (and2 this).2)).1) (by rw [List.length_map, List.length_range]; omega)
        refine ⟨p, vs, _, rfl, rfl, e2, l1, _, _, _, rfl, fun z => absurd z (by omega), fun _ => rfl, ?_⟩
        rw [List.range_succ, List.map_append]
        exact a2
      | false =>
        refine iteN (by decide +kernel) ?_
        refine ⟨_, rfl, .inl ⟨rfl, _, SqL.of e1⟩, ?_⟩
        refine ⟨_, rfl, _, _, rfl, rfl, _, rfl, _, _, _, rfl, _, rfl, (by show 3 ≤ sizeLine; decide), fun q fq => ?_⟩
        have sq := Same.new (o := HO.tup [V.str "write", .int (fcell 0 ((n : Int) + 2) (i : Int)), .int 0]) (Same.refl _) fq
        have ec : fcell 0 ((n : Int) + 2) (i : Int) = (((n + 2) * 4 + i : Nat) : Int) := by
          unfold fcell
          omega
        obtain ⟨l1, e2, a2⟩ := a.put' (v := .ref q) e1 fp sq (d := fillR (n + 2) r.cs i) (by
          unfold fillR
          refine .tup (xs := [V.str "write", .int (fcell 0 ((n : Int) + 2) (i : Int)), .int 0]) (SqT.of upd_same) (.cons (.str _) (.cons (by rw [ec]; exact .int _) (.cons ?_ .nil)))
          unfold RQ.cs
          rw [hw]
          rw [if_neg (by decide)]
          rcases (by omega : i = 0 ∨ i = 1 ∨ i = 2 ∨ i = 3) with rfl | rfl | rfl | rfl <;> exact .int _) (fill_nl r.cs_nl i) (by
          have := fill_nl (f := n + 2) r.cs_nl (i + 1)
          rw [List.range_succ, List.map_append, noLs_app] at this
          exact (and2 (show (noL (fillR (n + 2) r.cs i) && true) = true from (and2 this).2)).1) (by rw [List.length_map, List.length_range]; omega)
        refine ⟨p, vs, _, rfl, rfl, e2, l1, rt, _, _, rfl, fun z => absurd z (by omega), fun _ => (by
          by_cases z : i = 0
          · exact r0 z
          · rw [r1 (by omega), hw]), ?_⟩
        rw [List.range_succ, List.map_append]
        exact a2
    · rintro σ H1 ⟨rt, x4, x5, rfl, _, r1, a⟩
      have r1 := r1 (by decide)
      subst r1
      obtain ⟨vs, e1, hvs, s1⟩ := id a
      have ht1 := Same.seqT s1 ht
      have nl1 : noLs ((List.range 4).map (fillR (n + 2) r.cs)) = true := fill_nl r.cs_nl 4
      have ec1 : tword 0 ((n : Int) + 2) = ((56 + (n + 2) : Nat) : Int) := by
        unfold tword
        omega
      have ec2 : fcell 0 0 (n : Int) = (n : Int) := by
        unfold fcell
        omega
      refine ⟨_, rfl, .inl ⟨rfl, _, SqL.of e1⟩, ?_⟩
      refine ⟨_, rfl, _, _, rfl, rfl, _, _, rfl, _, rfl, _, _, rfl, rfl, _, rfl, (by show 2 ≤ sizeLine; decide), fun q1 f1 => ⟨(by show 3 ≤ sizeLine; decide), fun q2 f2 => ?_⟩⟩
      have t1 := Same.new (o := HO.tup [V.int ((n : Int) + 2), .str (rightS r.wr)]) (Same.refl _) f1
      have t2 := Same.new (o := HO.tup [V.str "write", .int (tword 0 ((n : Int) + 2)), .ref q1]) (Same.refl _) f2
      obtain ⟨l2, e2, a2⟩ := a.put' (v := .ref q2) (d := .tuple [.str "write", .int ((56 + (n + 2) : Nat) : Int), .tuple [.int ((n + 2 : Nat) : Int), .str (rightS r.wr)]]) e1 fp (t1.trans t2) (.tup (xs := [V.str "write", .int (tword 0 ((n : Int) + 2)), .ref q1]) (SqT.of upd_same) (.cons (.str _) (.cons (by rw [ec1]; exact .int _) (.cons (.tup (xs := [V.int ((n : Int) + 2), .str (rightS r.wr)]) (SqT.of (t2 _ _ upd_same)) (.cons (.int _) (.cons (.str _) .nil))) .nil)))) nl1 rfl (by simp)
      refine ⟨p, vs, _, rfl, rfl, e2, l2, ?_⟩
      obtain ⟨vs2, e3, _, s2⟩ := id a2
      have ht2 := Same.seqT s2 ht
      refine ⟨_, rfl, .inl ⟨rfl, _, SqL.of e3⟩, ?_⟩
      refine ⟨_, rfl, _, _, _, rfl, _, rfl, _, rfl, t, _, ((0 : Nat) : Int), .str (kindS r.wr), rfl, rfl, ht2, atI_n (j := 0) rfl, _, rfl, t, _, ((1 : Nat) : Int), .int (r.blk : Int), rfl, rfl, ht2, atI_n (j := 1) rfl, _, rfl, (by show 5 ≤ sizeLine; decide), fun q3 f3 => ⟨(by show 3 ≤ sizeLine; decide), fun q4 f4 => ?_⟩⟩
      have t3 := Same.new (o := HO.tup [V.int (n : Int), .str (kindS r.wr), .int (r.blk : Int), .int 1, .int (n : Int)]) (Same.refl _) f3
      have t4 := Same.new (o := HO.tup [V.str "write", .int (fcell 0 0 (n : Int)), .ref q3]) (Same.refl _) f4
      have nl2 : noLs ((List.range 4).map (fillR (n + 2) r.cs) ++ [.tuple [.str "write", .int ((56 + (n + 2) : Nat) : Int), .tuple [.int ((n + 2 : Nat) : Int), .str (rightS r.wr)]]]) = true := by
        rw [noLs_app, nl1]
        rfl
      obtain ⟨l4, e4, a4⟩ := a2.put' (v := .ref q4) (d := .tuple [.str "write", .int (n : Int), descD n r]) e3 fp (t3.trans t4) (.tup (xs := [V.str "write", .int (fcell 0 0 (n : Int)), .ref q3]) (SqT.of upd_same) (.cons (.str _) (.cons (by rw [ec2]; exact .int _) (.cons (.tup (xs := [V.int (n : Int), .str (kindS r.wr), .int (r.blk : Int), .int 1, .int (n : Int)]) (SqT.of (t4 _ _ upd_same)) (.cons (.int _) (.cons (.str _) (.cons (.int _) (.cons (.int _) (.cons (.int _) .nil)))))) .nil)))) nl2 rfl (by simp)
      refine ⟨p, vs2, _, rfl, rfl, e4, l4, ?_⟩
      obtain ⟨vs4, e5, _, s4⟩ := id a4
      refine ⟨_, rfl, .inl ⟨rfl, _, SqL.of e5⟩, ?_⟩
      refine ⟨_, rfl, _, rfl, _, _, rfl, rfl, (by show 3 ≤ sizeLine; decide), fun q5 f5 => ?_⟩
      have nl4 : noLs (((List.range 4).map (fillR (n + 2) r.cs) ++ [.tuple [.str "write", .int ((56 + (n + 2) : Nat) : Int), .tuple [.int ((n + 2 : Nat) : Int), .str (rightS r.wr)]]]) ++ [.tuple [.str "write", .int (n : Int), descD n r]]) = true := by
        rw [noLs_app, nl2]
        rfl
      obtain ⟨l5, e6, a5⟩ := a4.put' (v := .ref q5) (d := .tuple [.str "write", .int ((48 : Nat) : Int), .int ((n + 1 : Nat) : Int)]) e5 fp (Same.new (o := HO.tup [V.str "write", .int (dbell 0), .int ((n : Int) + 1)]) (Same.refl _) f5) (.tup (xs := [V.str "write", .int (dbell 0), .int ((n : Int) + 1)]) (SqT.of upd_same) (.cons (.str _) (.cons (.int _) (.cons (.int _) .nil)))) nl4 rfl (by simp)
      refine ⟨p, vs4, _, rfl, rfl, e6, l5, _, rfl, k.of fp ?_⟩
      have e : fillD (n + 2) r.cs ++ handD n r = (((List.range 4).map (fillR (n + 2) r.cs) ++ [.tuple [.str "write", .int ((56 + (n + 2) : Nat) : Int), .tuple [.int ((n + 2 : Nat) : Int), .str (rightS r.wr)]]]) ++ [.tuple [.str "write", .int (n : Int), descD n r]]) ++ [.tuple [.str "write", .int ((48 : Nat) : Int), .int ((n + 1 : Nat) : Int)]] := by
        unfold fillD handD
        rw [RQ.cs_len ok]
        simp only [List.append_assoc, List.cons_append, List.nil_append]
      rw [e]
      exact a5
end
end Rb
namespace Rb
open PySem PySem.Spec PyProof.Rows L2
/-! ### the rows of a driver -/
def RowAt (K : PySem.W.Frag) (H : Hp) (v : V) (x : EX) : Prop := ∃ t i rv av st, v = .ref t ∧ SqT K H t [.int i, rv, av, optV x.fi, optV x.an, .ref st] ∧ Dp K H av (ansD x.an)
inductive RowsAt (K : PySem.W.Frag) (H : Hp) : List V → List EX → Prop
  | nil : RowsAt K H [] []
  | cons {v : V} {x : EX} {vs : List V} {es : List EX} (h : RowAt K H v x) (t : RowsAt K H vs es) : RowsAt K H (v :: vs) (x :: es)
theorem RowAt.ts {K : PySem.W.Frag} {H H' : Hp} {v : V} {x : EX} (h : RowAt K H v x) (t : TSame K H H') : RowAt K H' v x := by
  obtain ⟨a, i, rv, av, st, e, h1, h2⟩ := h
  exact ⟨a, i, rv, av, st, e, t _ _ h1, Rb.Dp.ts t _ _ (ansD_nl _) h2⟩
theorem RowsAt.ts {K : PySem.W.Frag} {H H' : Hp} (t : TSame K H H') : ∀ {vs : List V} {es : List EX}, RowsAt K H vs es → RowsAt K H' vs es
  | _, _, .nil => .nil
  | _, _, .cons h r => .cons (h.ts t) (RowsAt.ts t r)
theorem RowsAt.snoc {K : PySem.W.Frag} {H : Hp} {v : V} {x : EX} (h : RowAt K H v x) : ∀ {vs : List V} {es : List EX}, RowsAt K H vs es → RowsAt K H (vs ++ [v]) (es ++ [x])
  | _, _, .nil => .cons h .nil
  | _, _, .cons a r => .cons a (RowsAt.snoc h r)
theorem RowsAt.len {K : PySem.W.Frag} {H : Hp} : ∀ {vs : List V} {es : List EX}, RowsAt K H vs es → vs.length = es.length
  | _, _, .nil => rfl
  | _, _, .cons _ r => congrArg (· + 1) r.len
theorem RowsAt.get {K : PySem.W.Frag} {H : Hp} {v : V} : ∀ {vs : List V} {es : List EX} {i : Nat}, RowsAt K H vs es → vs[i]? = some v → ∃ x, es[i]? = some x ∧ RowAt K H v x
  | _, _, _, .nil, h => by simp at h
  | _, _, 0, .cons a r, h => by
    cases h
    exact ⟨_, rfl, a⟩
  | _, _, i + 1, .cons a r, h => r.get (i := i) h
def spRows (K : PySem.W.Frag) : Sp := fun vs H Q _ => ∃ (mm : Addr) (X : DV), vs = [.ref X.cl] ∧ DrvAt K H mm X ∧ X.es.length ≤ 60 ∧ ∀ p xs H', H p = none → H' p = some (.lst xs) → RowsAt K H' xs (X.es.filter fun x => x.fi.isSome) → Same H H' → Q (.ref p) H'
def spDRows (K : PySem.W.Frag) : Sp := fun vs H Q _ => ∃ (mm : Addr) (X : DV), vs = [.ref X.o] ∧ DrvAt K H mm X ∧ X.es.length ≤ 60 ∧ ∀ p xs H', H p = none → H' p = some (.lst xs) → RowsAt K H' xs (X.es.filter fun x => x.fi.isSome) → Same H H' → Q (.ref p) H'
section
variable {P : Program} {w : World} {K : PySem.W.Frag} {mg : Str → Option Value} {base : Heap}
theorem ok_rows (T : Top K mg) : FnC P w K mg base CX0 1 (He.ma K (He.ga K "Clients") "rows") (spRows K) := by
  refine fnc0 T.d_Clients_rows sc_Clients_rows (fun _ _ _ _ _ _ us hl => match us, hl with | [_], _ => rfl) (fun vs H Q E h => ?_) (fun cdv A outer s H vs Q E hr h => ?_)
  · obtain ⟨mm, X, rfl, _⟩ := h
    rfl
  · obtain ⟨mm, X, rfl, h, hl, k⟩ := h
    refine ⟨_, (pss_one (ps_ret (pe_lc (own := [("index", 1), ("errand", 2)]) (g := gTup K 2 (gCons (gName 1) (gCons (gName 2) (gNil)))) rfl sc_Clients_rows.nd (pi_enum (by rfl) T.b_enumerate (pa_cons (pe_fld (pv 0) rfl) pa_nil)) (blkOk_by (N := ["self", "index", "errand"]) (sc := defScope s_Clients_rows) (by decide +kernel)) (fun _ _ _ _ _ => (pg_tupK (K := K) (n := 2) rfl rfl (pgs_cons (pg_name (i := 1) sc_Clients_rows.nd rfl (Or.inl rfl)) (pgs_cons (pg_name (i := 2) sc_Clients_rows.nd rfl (Or.inl rfl)) pgs_nil)))) (fun _ _ _ _ _ => pts_one (pt_cmp (pc_notN (pe_fldK (K := K) rfl (pv 2) rfl)))) (fun _ _ _ _ _ => (pe_tup (pa_cons (pv 1) (pa_cons (pe_fldK (K := K) rfl (pv 2) rfl) (pa_cons (pe_fldK (K := K) rfl (pv 2) rfl) (pa_cons (pe_fldK (K := K) rfl (pv 2) rfl) (pa_cons (pe_fldK (K := K) rfl (pv 2) rfl) (pa_cons (pe_fldK (K := K) rfl (pv 2) rfl) pa_nil))))))))))), ?_⟩
    refine ⟨_, rfl, X.cl, CL K, X.cd, _, _, rfl, h.co.oc, T.cl_Clients, T.na_Clients__errands, rfl, X.el, _, rfl, SqL.of h.co.oel, fun D hD => ?_⟩
    refine lc_enumL (K := K) (a := X.el) (xs := X.es.map fun x => V.ref x.j) (fun i H2 => ∃ vs, H2 D = some (.lst vs) ∧ RowsAt K H2 vs ((X.es.take i).filter fun x => x.fi.isSome) ∧ Same H H2) ⟨[], upd_same, .nil, Same.new (Same.refl _) hD⟩ (fun i H2 a => by
      obtain ⟨vs, _, _, s⟩ := a
      exact SqL.of (s _ _ h.co.oel)) ?_ ?_
    · rintro i x Tu H2 hi ⟨vs, eD, hr2, s2⟩ hT
      obtain ⟨y, hy, rfl⟩ := ref_at hi
      have s3 := Same.new (o := HO.tup [V.int (i : Int), V.ref y.j]) (Same.refl _) hT
      obtain ⟨rv, av, st, sx, ej, h1, h2, h3, h4⟩ := (h.errAt hy).oj
      have e3 := (s2.trans s3) _ _ ej
      have lv : vs.length ≤ 60 := by
        have := hr2.len
        have := List.length_filter_le (fun x : EX => x.fi.isSome) (X.es.take i)
        rw [List.length_take] at this
        omega
      refine ⟨Tu, _, rfl, SqT.of upd_same, rfl, _, _, rfl, _, _, rfl, rfl, rfl, ?_⟩
      refine ⟨_, rfl, y.j, CE K, y.d, _, _, rfl, e3, T.cl_Errand, T.na_Errand_first, le_fi, _, rfl, ?_⟩
      rw [List.take_add_one, hy, List.filter_append]
      cases ef : y.fi with
      | none =>
        refine iteN (by decide) ⟨vs, s3 _ _ eD, ?_, s2.trans s3⟩
        show RowsAt K _ vs (_ ++ List.filter _ [y])
        rw [List.filter_cons_of_neg (by rw [ef]; decide), List.filter_nil, List.append_nil]
        exact hr2.ts (TSame.same s3)
      | some f =>
        refine iteY (by rfl) ?_
        refine ⟨_, rfl, _, rfl, y.j, CE K, y.d, _, _, rfl, e3, T.cl_Errand, T.na_Errand_request, le_rq, _, rfl, y.j, CE K, y.d, _, _, rfl, e3, T.cl_Errand, T.na_Errand_answer, le_an, _, rfl, y.j, CE K, y.d, _, _, rfl, e3, T.cl_Errand, T.na_Errand_first, le_fi, _, rfl, y.j, CE K, y.d, _, _, rfl, e3, T.cl_Errand, T.na_Errand_last, le_la, _, rfl, y.j, CE K, y.d, _, _, rfl, e3, T.cl_Errand, T.na_Errand_sendings, le_sd, (by show 6 ≤ sizeLine; decide), fun q fq => ?_⟩
        have s4 := s3.trans (Same.new (o := HO.tup [V.int (i : Int), rv, av, optV y.fi, optV y.an, .ref st]) (Same.refl _) fq)
        have e4 := s4 _ _ eD
        have ts : TSame K (upd (upd H2 Tu (.tup [V.int (i : Int), V.ref y.j])) q (.tup [V.int (i : Int), rv, av, optV y.fi, optV y.an, .ref st])) (upd (upd (upd H2 Tu (.tup [V.int (i : Int), V.ref y.j])) q (.tup [V.int (i : Int), rv, av, optV y.fi, optV y.an, .ref st])) D (.lst (vs ++ [.ref q]))) := TSame.lst e4
        refine ⟨vs, e4, (by rw [sizeLine_eq]; omega), vs ++ [.ref q], upd_same, ?_, Same.put (s2.trans s4) hD⟩
        show RowsAt K _ _ (_ ++ List.filter _ [y])
        rw [List.filter_cons_of_pos (by rw [ef]; rfl), List.filter_nil]
        exact RowsAt.snoc (RowAt.ts ⟨q, _, rv, av, st, rfl, SqT.of upd_same, h2.same (s2.trans s4)⟩ ts) ((hr2.ts (TSame.same s4)).ts ts)
    · rintro H2 ⟨vs, eD, hr2, s2⟩
      rw [List.length_map, List.take_length] at hr2
      exact k D vs H2 hD eD hr2 s2
theorem ok_drv_rows (T : Top K mg) : FnC P w K mg base CX0 2 (He.ma K (He.ga K "Driver") "rows") (spDRows K) := by
  have G_Clients_rows := ok_rows (P := P) (w := w) (base := base) T
  refine fnc0 T.d_Driver_rows sc_Driver_rows (fun _ _ _ _ _ _ us hl => match us, hl with | [_], _ => rfl) (fun vs H Q E h => ?_) (fun cdv A outer s H vs Q E hr h => ?_)
  · obtain ⟨mm, X, rfl, _⟩ := h
    rfl
  · obtain ⟨mm, X, rfl, h, hl, k⟩ := h
    refine ⟨_, (pss_one (ps_ret (pe_m0 G_Clients_rows hr (by decide) T.cl_Clients T.me_Clients_rows pass0 (pe_fld (pv 0) rfl)))), ?_⟩
    exact ⟨_, rfl, X.o, CR K, X.d, _, _, rfl, h.oo, T.cl_Driver, T.na_Driver__clients, lr_cl, X.cl, X.cd, _, rfl, h.co.oc, zn (by decide +kernel), mm, X, rfl, h, hl, k⟩
end
end Rb
namespace Rb
open PySem PySem.Spec PyProof.Rows L2
theorem Abs.ks {K : PySem.W.Frag} {H H' : Hp} {L : ML} {M : MS} {A : AM} {N : Nat} {S : List Addr} (h : Abs K H L M A N) (k : KS S H H') (nt : NoT S H) (ap : ∀ b ∈ S, b ∉ L.all) : Abs K H' L M A N := by
  refine h.move (h.mem.keep fun b hb => ?_) (k.ts nt)
  obtain ⟨o, e, _⟩ := h.mem.kind b hb
  rw [e]
  exact k b o e fun z => ap b z hb
theorem NoT.one {H : Hp} {o : Addr} {C d : Addr} {fs : List (Str × V)} (e : H o = some (.ins C d fs)) : NoT [o] H := fun b hb => by
  rw [List.mem_singleton.mp hb, e]
  exact ⟨fun _ z => (nomatch z), fun _ _ z => (nomatch z)⟩
theorem Tp.ks {H H' : Hp} {t l : Addr} {S : List Addr} (h : Tp H t l) (k : KS S H H') (n1 : t ∉ S) (n2 : l ∉ S) : Tp H' t l := by
  obtain ⟨s, rfl, h⟩ := h
  exact ⟨s, rfl, k _ _ h.ot n1, k _ _ h.ol n2, h.ne, h.hl, h.hp, h.h0, h.h1, h.h2⟩
theorem Kp.ks {t : Addr} {H H' : Hp} (k : Kp t H H') : KS [t] H H' := fun b o e n => k b o e (by simpa using n)
theorem Tp.noT {H : Hp} {t l : Addr} (h : Tp H t l) : NoT [t] H := fun b hb => by
  obtain ⟨xs, e⟩ := h.lst
  rw [List.mem_singleton.mp hb, e]
  exact ⟨fun _ z => (nomatch z), fun _ _ z => (nomatch z)⟩
/-! ### a world is made -/
def spWldI (K : PySem.W.Frag) : Sp := fun vs H Q _ => ∃ (o d p l0 l1 : Addr) (xs : List V) (rs : List RQ), vs = [.ref o, .ref p, .int 0] ∧ H o = some (.ins (CW K) d []) ∧ H d = some (.own o) ∧ H p = some (.lst [.ref l0, .ref l1]) ∧ H l0 = some (.lst xs) ∧ H l1 = some (.lst []) ∧ DpAll K H xs (rs.map RQ.d) ∧ (∀ r ∈ rs, r.Ok) ∧ rs.length ≤ 60 ∧
  ∀ (L : ML) (M : MS) (X : DV) (dl vl ll d1 : Addr) (H' : Hp), H' o = some (.ins (CW K) d (wFld L.m dl vl ll)) → H' dl = some (.lst [.ref X.o, .ref d1]) → Abs K H' L M A0 0 → DrvAt K H' L.m X → X.dat = initD 0 rs → (∀ b ∈ X.all, b ∉ L.all) → dl ∉ L.all → dl ∉ X.all → (∀ b ∈ L.all, H b = none) → (∀ b ∈ X.all, H b = none) → H dl = none →
    (∀ b u, H b = some u → b ≠ o → H' b = some u) → Q .non H'
section
variable {P : Program} {w : World} {K : PySem.W.Frag} {mg : Str → Option Value} {base : Heap}
theorem ok_wld_init (T : Top K mg) : FnCD P w K mg base (L2.CX P w) 9 (He.ma K (He.ga K "World") "__init__") [.int 0] (spWldI K) := by
  have G_are_requests := ok_arereq (P := P) (w := w) (base := base) T
  have G_is_number := ok_is_number (P := P) (w := w) (base := base) T
  have G_NotValid___init__ := ok_NotValid_init (P := P) (w := w) (base := base) T
  have G_Memory___init__ := ok_Memory_init (P := P) (w := w) (base := base) T
  have G_Driver___init__ := ok_drv_init (P := P) (w := w) (base := base) T
  have G_Device___init__ := ok_dev_init (P := P) (w := w) (base := base) T
  refine fncE T.d_World___init__ (n := 2) (by decide) rfl sc_World___init__ (fun _ _ _ _ _ _ _ us its hl hi => match us, its, hl, hi with | [_, _], [_], _, _ => ⟨_, rfl, rfl⟩) (fun vs H Q E h => ?_) (fun cdv A outer s H vs Q E hr h => ?_)
  · obtain ⟨o, d, p, l0, l1, xs, rs, rfl, _⟩ := h
    rfl
  · obtain ⟨o, d, p, l0, l1, xs, rs, rfl, ho, hd, hp, hl0, hl1, hxs, hok, hlen, k⟩ := h
    refine ⟨_, (pss_cons (ps_if (PW.pt (pw_or (pt_not (pt_val (pe_f G_are_requests hr (by decide) (by rfl) T.g_are_requests pass0 (pa_cons (pv 1) pa_nil)))) (pw_or1 (pt_not (pt_val (pe_f G_is_number hr (by decide) (by rfl) T.g_is_number pass0 (pa_cons (pv 2) (pa_cons (pe_gc (by rfl) T.c_OMISSIONS) pa_nil)))))))) (pss_one (ps_raise rfl (takes_of rfl rfl rfl rfl) (pmk_bare T.ex_NotValid T.ini_NotValid T.ity_NotValid G_NotValid___init__ hr (by decide) pass0 (by rfl) T.g_NotValid))) pss_nil)
    (pss_cons (ps_fld (pv 0) (pe_k0 G_Memory___init__ hr (by decide) (by rfl) T.g_Memory T.mk_Memory pass0) rfl)
    (pss_cons (ps_fld (pv 0) (pe_lc (own := [("d", 3)]) (g := gName 3) (tt := tYes) rfl sc_World___init__.nd (pi_range1 (by rfl) T.b_range (pa_cons (pe_gc (by rfl) T.c_DEVICES) pa_nil)) (blkOk_by (N := ["self", "requests", "without", "d"]) (sc := defScope s_World___init__) (by decide +kernel)) (fun _ _ _ _ _ => (pg_name (i := 3) sc_World___init__.nd rfl (Or.inl rfl))) (fun _ _ _ _ _ => pts_nil) (fun _ _ _ _ _ => (pe_k G_Driver___init__ hr (by decide) (by rfl) T.g_Driver T.mk_Driver pass0 (pa_cons (pe_fldK (K := K) rfl (pv 0) rfl) (pa_cons (pv 3) (pa_cons (pe_ix (r := rIxL K) ix_list (pv 1) (pv 3) (fun _ _ => rfl)) (pa_cons (pv 2) pa_nil))))))) rfl)
    (pss_cons (ps_fld (pv 0) (pe_lc (own := [("d", 3)]) (g := gName 3) (tt := tYes) rfl sc_World___init__.nd (pi_range1 (by rfl) T.b_range (pa_cons (pe_gc (by rfl) T.c_DEVICES) pa_nil)) (blkOk_by (N := ["self", "requests", "without", "d"]) (sc := defScope s_World___init__) (by decide +kernel)) (fun _ _ _ _ _ => (pg_name (i := 3) sc_World___init__.nd rfl (Or.inl rfl))) (fun _ _ _ _ _ => pts_nil) (fun _ _ _ _ _ => (pe_k G_Device___init__ hr (by decide) (by rfl) T.g_Device T.mk_Device pass0 (pa_cons (pe_fldK (K := K) rfl (pv 0) rfl) (pa_cons (pv 3) pa_nil))))) rfl)
    (pss_one (ps_fld (pv 0) (pe_op op_rep (pe_lst (pa_cons pe_bl pa_nil)) (pe_gc (by rfl) T.c_DEVICES)) rfl)))))), ?_⟩
    refine ⟨_, rfl, p, l0, l1, xs, rs, rfl, hp, hl0, hl1, hxs, hok, hlen, fun H1 s1 => ⟨_, rfl, iteN (by decide) ?_⟩⟩
    refine ⟨_, rfl, _, _, _, rfl, .int _, _, rfl, iteN (by decide) ?_⟩
    -- the memory
    have ho1 := s1 _ _ ho
    intro m dm hm hdm nmd
    refine ⟨m, dm, rfl, upd_same, by rw [upd_ne nmd, upd_same], nmd.symm, fun L H2 z t0 eL1 eL2 MA fr hz ht kp => ⟨rfl, ?_⟩⟩
    subst eL1 eL2
    have s2 : Same H1 H2 := fun b u hb => by
      refine kp b u ?_ (ne_of_none hb hm)
      rw [upd_ne (ne_of_none hb hm), upd_ne (ne_of_none hb hdm)]
      exact hb
    have frL : ∀ b ∈ L.all, H b = none := fun b hb => by
      refine s1.free ?_
      rcases fr b hb with rfl | rfl | q
      · exact hm
      · exact hdm
      · exact (free_upd (free_upd q).2).2
    have oL : o ∉ L.all := fun zz => by
      have := frL o zz
      rw [ho] at this
      cases this
    have ab2 := abs0 MA hz ht
    clear kp fr
    refine ⟨_, rfl, o, CW K, d, List.zip [] [], rfl, s2 _ _ ho1, T.cl_World, T.na_World_memory, (by decide), ?_⟩
    rw [zx (by decide +kernel) rfl]
    have nt2 : NoT [o] H2 := fun b hb => by
      rw [List.mem_singleton.mp hb, s2 _ _ ho1]
      exact ⟨fun _ q => (nomatch q), fun _ _ q => (nomatch q)⟩
    have ks3 : KS [o] H2 (upd H2 o (.ins (CW K) d (List.zip (([] : List Str) ++ [("memory" : Str)]) ([] ++ [V.ref L.m])))) := KS.refl.u
    have ab3 := ab2.ks ks3 nt2 fun b hb => by rw [List.mem_singleton.mp hb]; exact oL
    have o3 : upd H2 o (.ins (CW K) d (List.zip (([] : List Str) ++ [("memory" : Str)]) ([] ++ [V.ref L.m]))) o = some (.ins (CW K) d (List.zip ["memory"] [.ref L.m])) := upd_same
    have sk3 : KS [o] H (upd H2 o (.ins (CW K) d (List.zip (([] : List Str) ++ [("memory" : Str)]) ([] ++ [V.ref L.m])))) := (KS.of (s1.trans s2)).trans ks3
    clear ks3
    generalize upd H2 o (.ins (CW K) d (List.zip (([] : List Str) ++ [("memory" : Str)]) ([] ++ [V.ref L.m]))) = H3 at ab3 o3 sk3 ⊢
    have no1 : ∀ {b : Addr} {u : HO}, H b = some u → tg u ≠ 100 → b ∉ [o] := fun e tt => not1 ho e tt
    have p3 := sk3 _ _ hp (no1 hp (by simp [tg]))
    have l03 := sk3 _ _ hl0 (no1 hl0 (by simp [tg]))
    have l13 := sk3 _ _ hl1 (no1 hl1 (by simp [tg]))
    have nt0 : NoT [o] H := fun b hb => by
      rw [List.mem_singleton.mp hb, ho]
      exact ⟨fun _ q => (nomatch q), fun _ _ q => (nomatch q)⟩
    have hxs3 : DpAll K H3 xs (rs.map RQ.d) := Rb.DpAll.ts (sk3.ts nt0) _ _ (noLs_map (fun r => r.nl) rs) hxs
    -- the drivers
    refine ⟨2, rfl, by decide, by decide, fun D hD => ?_⟩
    let PX : DV → Hp → Prop := fun X H4 => DrvAt K H4 L.m X ∧ X.dat = initD 0 rs ∧ (∀ b ∈ X.all, H3 b = none) ∧ D ∉ X.all
    refine lc_range (n := 2) (fun i H4 => Same H3 H4 ∧ ((i = 0 ∧ H4 D = some (.lst [])) ∨ (i = 1 ∧ ∃ X, PX X H4 ∧ H4 D = some (.lst [.ref X.o])) ∨ (i = 2 ∧ ∃ X d1, PX X H4 ∧ H4 D = some (.lst [.ref X.o, .ref d1])))) ⟨Same.new (Same.refl _) hD, .inl ⟨rfl, upd_same⟩⟩ ?_ ?_
    · rintro i H4 hi ⟨s4, hc⟩
      refine ⟨rfl, ?_⟩
      rw [Int.zero_add]
      rcases hc with ⟨rfl, eD⟩ | ⟨rfl, X, ⟨hX, eX, fX, nX⟩, eD⟩ | ⟨rfl, _⟩
      · refine ⟨_, rfl, o, CW K, d, _, _, rfl, s4 _ _ o3, T.cl_World, T.na_World_memory, zl (i := 0) (by decide +kernel) rfl, _, rfl, _, rfl, _, rfl, p, _, ((0 : Nat) : Int), .ref l0, rfl, rfl, SqL.of (s4 _ _ p3), atI_n (j := 0) rfl, _, rfl, fun x dx hx hdx nex => ?_⟩
        have s5 : Same H4 (upd (upd H4 dx (.own x)) x (.ins (He.ga K "Driver") dx [])) := Same.new (Same.new (Same.refl _) hdx) hx
        refine ⟨x, dx, L.m, l0, 0, xs, rs, rfl, upd_same, (by rw [upd_ne nex, upd_same]), (s4.trans s5) _ _ l03, hxs3.same (s4.trans s5), hlen, fun X H6 hX eo ed dX fX kX => ⟨rfl, ?_⟩⟩
        have s6 : Same H4 H6 := fun b u e => kX b u (s5 b u e) (ne_of_none e hx)
        have fX4 : ∀ b ∈ X.all, H4 b = none := fun b hb => by
          rcases fX b hb with rfl | rfl | q
          · exact hx
          · exact hdx
          · exact (free_upd (free_upd q).2).2
        have nDX : D ∉ X.all := fun zz => by
          have := fX4 D zz
          rw [eD] at this
          cases this
        refine ⟨[], s6 _ _ eD, by decide, (Same.put (s4.trans s6) hD), .inr (.inl ⟨rfl, X, ⟨?_, dX, fun b hb => s4.free (fX4 b hb), nDX⟩, ?_⟩)⟩
        · exact hX.ks (KS.refl.upd (List.mem_singleton_self D)) (fun b hb => by rw [List.mem_singleton.mp hb, s6 _ _ eD]; exact ⟨fun _ q => (nomatch q), fun _ _ q => (nomatch q)⟩) fun b hb zz => nDX (List.mem_singleton.mp zz ▸ hb)
        · rw [upd_same, eo]
          rfl
      · refine ⟨_, rfl, o, CW K, d, _, _, rfl, s4 _ _ o3, T.cl_World, T.na_World_memory, zl (i := 0) (by decide +kernel) rfl, _, rfl, _, rfl, _, rfl, p, _, ((1 : Nat) : Int), .ref l1, rfl, rfl, SqL.of (s4 _ _ p3), atI_n (j := 1) rfl, _, rfl, fun x dx hx hdx nex => ?_⟩
        have s5 : Same H4 (upd (upd H4 dx (.own x)) x (.ins (He.ga K "Driver") dx [])) := Same.new (Same.new (Same.refl _) hdx) hx
        refine ⟨x, dx, L.m, l1, 1, [], [], rfl, upd_same, (by rw [upd_ne nex, upd_same]), (s4.trans s5) _ _ l13, .nil, by decide, fun X1 H6 _ eo _ _ _ kX => ⟨rfl, ?_⟩⟩
        have s6 : Same H4 H6 := fun b u e => kX b u (s5 b u e) (ne_of_none e hx)
        refine ⟨[.ref X.o], s6 _ _ eD, (by rw [sizeLine_eq]; show 1 < _; decide), (Same.put (s4.trans s6) hD), .inr (.inr ⟨rfl, X, x, ⟨?_, eX, fX, nX⟩, ?_⟩)⟩
        · exact (hX.same s6).ks (KS.refl.upd (List.mem_singleton_self D)) (fun b hb => by rw [List.mem_singleton.mp hb, s6 _ _ eD]; exact ⟨fun _ q => (nomatch q), fun _ _ q => (nomatch q)⟩) fun b hb zz => nX (List.mem_singleton.mp zz ▸ hb)
        · rw [upd_same]
          rfl
      · omega
    · rintro H4 ⟨s4, hc⟩
      rcases hc with ⟨q, _⟩ | ⟨q, _⟩ | ⟨_, X, d1, ⟨hX, eX, fX, nX⟩, eD⟩
      · cases q
      · cases q
      have fX0 : ∀ b ∈ X.all, H b = none := fun b hb => by
        have := fX b hb
        refine sk3.free this fun zz => ?_
        rw [List.mem_singleton.mp zz, o3] at this
        cases this
      have oX : o ∉ X.all := fun zz => by
        have := fX0 o zz
        rw [ho] at this
        cases this
      have oD : o ≠ D := ne_of_none o3 hD
      have ab4 := ab3.same s4
      refine ⟨_, rfl, o, CW K, d, List.zip ["memory"] [.ref L.m], rfl, s4 _ _ o3, T.cl_World, T.na_World_drivers, (by show 1 < 1000; decide), ?_⟩
      rw [zx (by decide +kernel) rfl]
      have ks5 : KS [o] H4 (upd H4 o (.ins (CW K) d (List.zip ((["memory"] : List Str) ++ [("drivers" : Str)]) ([V.ref L.m] ++ [V.ref D])))) := KS.refl.u
      have nt4 := NoT.one (s4 _ _ o3)
      have ab5 := ab4.ks ks5 nt4 fun b hb => by rw [List.mem_singleton.mp hb]; exact oL
      have hX5 := hX.ks ks5 nt4 fun b hb zz => oX (List.mem_singleton.mp zz ▸ hb)
      have o5 : upd H4 o (.ins (CW K) d (List.zip ((["memory"] : List Str) ++ [("drivers" : Str)]) ([V.ref L.m] ++ [V.ref D]))) o = some (.ins (CW K) d (List.zip ["memory", "drivers"] [.ref L.m, .ref D])) := upd_same
      have eD5 := ks5 _ _ eD fun zz => oD (List.mem_singleton.mp zz).symm
      have sk5 := (sk3.trans (KS.of s4)).trans ks5
      clear ks5 nt4 hX eD
      generalize upd H4 o (.ins (CW K) d (List.zip ((["memory"] : List Str) ++ [("drivers" : Str)]) ([V.ref L.m] ++ [V.ref D]))) = H5 at ab5 hX5 o5 eD5 sk5 ⊢
      -- the devices
      refine ⟨2, rfl, by decide, by decide, fun D2 hD2 => ?_⟩
      refine lc_range (n := 2) (fun i H6 => Same H5 H6 ∧ ∃ vs, H6 D2 = some (.lst vs) ∧ vs.length = i) ⟨Same.new (Same.refl _) hD2, [], upd_same, rfl⟩ ?_ ?_
      · rintro i H6 hi ⟨s6, vs, e6, lv⟩
        refine ⟨rfl, ?_⟩
        refine ⟨_, rfl, o, CW K, d, _, _, rfl, s6 _ _ o5, T.cl_World, T.na_World_memory, zl (i := 0) (by decide +kernel) rfl, _, rfl, fun x dx hx hdx nex => ?_⟩
        have s7 : Same H6 (upd (upd H6 dx (.own x)) x (.ins (He.ga K "Device") dx [])) := Same.new (Same.new (Same.refl _) hdx) hx
        refine ⟨x, dx, L.m, _, rfl, upd_same, (by rw [upd_ne nex, upd_same]), fun H8 kX => ⟨rfl, ?_⟩⟩
        have s8 : Same H6 H8 := fun b u e => kX b u (s7 b u e) (ne_of_none e hx)
        exact ⟨vs, s8 _ _ e6, (by rw [sizeLine_eq]; omega), Same.put (s6.trans s8) hD2, _, upd_same, by rw [List.length_append, lv]; rfl⟩
      rintro H6 ⟨s6, vs, e6, _⟩
      have oD2 : o ≠ D2 := ne_of_none o5 hD2
      refine ⟨_, rfl, o, CW K, d, List.zip ["memory", "drivers"] [.ref L.m, .ref D], rfl, s6 _ _ o5, T.cl_World, T.na_World_devices, (by show 2 < 1000; decide), ?_⟩
      rw [zx (by decide +kernel) rfl]
      have ks7 : KS [o] H5 (upd H6 o (.ins (CW K) d (List.zip ((["memory", "drivers"] : List Str) ++ [("devices" : Str)]) ([V.ref L.m, .ref D] ++ [V.ref D2])))) := (KS.of s6).u
      have nt5 := NoT.one o5
      have ab7 := ab5.ks ks7 nt5 fun b hb => by rw [List.mem_singleton.mp hb]; exact oL
      have hX7 := hX5.ks ks7 nt5 fun b hb zz => oX (List.mem_singleton.mp zz ▸ hb)
      have o7 : upd H6 o (.ins (CW K) d (List.zip ((["memory", "drivers"] : List Str) ++ [("devices" : Str)]) ([V.ref L.m, .ref D] ++ [V.ref D2]))) o = some (.ins (CW K) d (List.zip ["memory", "drivers", "devices"] [.ref L.m, .ref D, .ref D2])) := upd_same
      have eD7 := ks7 _ _ eD5 fun zz => oD (List.mem_singleton.mp zz).symm
      have sk7 := sk5.trans ks7
      clear ks7 nt5 hX5 eD5 ab5 sk5
      generalize upd H6 o (.ins (CW K) d (List.zip ((["memory", "drivers"] : List Str) ++ [("devices" : Str)]) ([V.ref L.m, .ref D] ++ [V.ref D2]))) = H7 at ab7 hX7 o7 eD7 sk7 ⊢
      -- the liars
      refine ⟨(by show 1 ≤ sizeLine; decide), fun l fl => ⟨l, 2, [.bl false], rfl, rfl, upd_same, by decide, by decide, (by show 1 * 2 ≤ sizeLine; decide), fun ll fll => ?_⟩⟩
      have s8 : Same H7 (upd (upd H7 l (.lst [.bl false])) ll (.lst (List.replicate (2 : Int).toNat [V.bl false]).flatten)) := (Same.new (Same.refl _) fl).trans (Same.new (Same.refl _) fll)
      refine ⟨_, rfl, o, CW K, d, _, rfl, s8 _ _ o7, T.cl_World, T.na_World__liars, (by show 3 < 1000; decide), ?_⟩
      rw [zx (by decide +kernel) rfl]
      have ks9 : KS [o] H7 (upd (upd (upd H7 l (.lst [.bl false])) ll (.lst (List.replicate (2 : Int).toNat [V.bl false]).flatten)) o (.ins (CW K) d (List.zip ((["memory", "drivers", "devices"] : List Str) ++ [("_liars" : Str)]) ([V.ref L.m, .ref D, .ref D2] ++ [V.ref ll])))) := (KS.of s8).u
      have nt7 := NoT.one o7
      have sk9 := sk7.trans ks9
      have fD : H D = none := sk3.free hD fun zz => oD (List.mem_singleton.mp zz).symm
      exact k L _ X D D2 ll d1 _ upd_same (ks9 _ _ eD7 fun zz => oD (List.mem_singleton.mp zz).symm) (ab7.ks ks9 nt7 fun b hb => by rw [List.mem_singleton.mp hb]; exact oL) (hX7.ks ks9 nt7 fun b hb zz => oX (List.mem_singleton.mp zz ▸ hb)) eX
        (fun b hb zz => by
          obtain ⟨u, eu, _⟩ := ab3.mem.kind b zz
          rw [fX b hb] at eu
          cases eu) (fun zz => ab3.mem.nin hD zz) nX frL fX0 fD (fun b u e n => sk9 b u e fun zz => n (List.mem_singleton.mp zz))
end
end Rb
namespace Rb
open PySem PySem.Spec PyProof.Rows L2
/-! ### the law's requests -/
def spLReq (K : PySem.W.Frag) : Sp := fun vs H Q _ => ∃ t l m, vs = [.ref t, .int m] ∧ Tp H t l ∧ 0 ≤ m ∧ m ≤ 40 ∧
  ∀ (p : Addr) (H' : Hp) (xs : List V) (rs : List RQ), Kp t H H' → Tp H' t l → H p = none → H' p = some (.lst xs) → DpAll K H' xs (rs.map RQ.d) → (∀ r ∈ rs, r.Ok) → rs.length = m.toNat → Q (.ref p) H'
theorem noLs_rqs (rs : List RQ) : noLs (rs.map RQ.d) = true := noLs_map (fun r => r.nl) rs
section
variable {P : Program} {w : World} {K : PySem.W.Frag} {mg : Str → Option Value} {base : Heap}
theorem ok_lreq (T : Top K mg) : FnC P w K mg base CX0 2 (He.ga K "_law_requests") (spLReq K) := by
  have G__law_next := ok_law_next (P := P) (w := w) (base := base) T
  refine fnc0 T.d__law_requests sc__law_requests (fun _ _ _ _ _ _ us hl => match us, hl with | [_, _], _ => rfl) (fun vs H Q E h => ?_) (fun cdv A outer s H vs Q E hr h => ?_)
  · obtain ⟨t, l, m, rfl, _⟩ := h
    rfl
  · obtain ⟨t, l, m, rfl, ht, m0, m1, k⟩ := h
    refine ⟨_, (pss_cons (ps_set (i := 2) sc__law_requests.nd rfl (Or.inl rfl) (pe_lst pa_nil))
    (pss_cons (ps_set (i := 3) sc__law_requests.nd rfl (Or.inl rfl) (pe_ix ix_tup (pe_tup (pa_cons pe_int (pa_cons pe_int (pa_cons pe_int pa_nil)))) (pe_f G__law_next hr (by decide) (by rfl) T.g__law_next pass0 (pa_cons (pv 0) (pa_cons pe_int pa_nil))) (fun _ _ => rfl)))
    (pss_cons (ps_for PassesOwn.never rfl (pi_range1 (by rfl) T.b_range (pa_cons (pv 1) pa_nil)) (pg_name (i := 4) sc__law_requests.nd rfl (Or.inl rfl)) (pss_cons (ps_set (i := 5) sc__law_requests.nd rfl (Or.inl rfl) (pe_f G__law_next hr (by decide) (by rfl) T.g__law_next pass0 (pa_cons (pv 0) (pa_cons (pv 3) pa_nil))))
    (pss_one (ps_if (pt_cmpR op_eq (pe_f G__law_next hr (by decide) (by rfl) T.g__law_next pass0 (pa_cons (pv 0) (pa_cons pe_int pa_nil))) pe_int (nomark _)) (pss_one (ps_expr (pe_bm PySem.F.plainAttrs_list PySem.F.slot_list_append PySem.F.type_list_append mt_append (pv 2) (pa_cons (pe_tup (pa_cons pe_str (pa_cons (pv 5) pa_nil))) pa_nil)))) (pss_one (ps_expr (pe_bm PySem.F.plainAttrs_list PySem.F.slot_list_append PySem.F.type_list_append mt_append (pv 2) (pa_cons (pe_tup (pa_cons pe_str (pa_cons (pv 5) (pa_cons (pe_callTy call_tuple_of (by rfl) T.b_tuple (by decide +kernel) (pa_cons (pe_lc (own := [("k", 6)]) (g := gName 6) (tt := tYes) rfl sc__law_requests.nd (pi_range1 (by rfl) T.b_range (pa_cons pe_int pa_nil)) (blkOk_by (N := ["tape", "many", "requests", "wide", "turn", "block", "k"]) (sc := defScope s__law_requests) (by decide +kernel)) (fun _ _ _ _ _ => (pg_name (i := 6) sc__law_requests.nd rfl (Or.inl rfl))) (fun _ _ _ _ _ => pts_nil) (fun _ _ _ _ _ => (pe_op op_sub (pe_f G__law_next hr (by decide) (by rfl) T.g__law_next pass0 (pa_cons (pv 0) (pa_cons pe_int pa_nil))) pe_int))) pa_nil)) pa_nil)))) pa_nil))))))))
    (pss_one (ps_ret (pv 2)))))), ?_⟩
    refine ⟨(by decide), fun p hp => ?_⟩
    have n0 := ht.nt hp
    have n1 := ht.nl hp
    have sp := Same.new (o := HO.lst []) (Same.refl H) hp
    refine ⟨(by show 3 ≤ sizeLine; decide), fun q0 f0 => ⟨_, rfl, t, l, 3, rfl, ?_, by decide, by decide, fun r0 H0 kp0 ht0 r00 r01 => ?_⟩⟩
    · exact (ht.same sp).same (Same.new (Same.refl _) f0)
    have sq := Same.new (o := HO.tup [V.int 2, .int 3, .int 8]) (Same.refl _) f0
    have hq0 := kp0 _ _ upd_same ((ht.same sp).nt f0)
    obtain ⟨wd, hwd, awd⟩ : ∃ wd : Int, (0 < wd ∧ wd ≤ 8) ∧ atI [V.int 2, .int 3, .int 8] r0 = some (.int wd) := by
      rcases (by omega : r0 = 0 ∨ r0 = 1 ∨ r0 = 2) with rfl | rfl | rfl
      · exact ⟨2, by decide, atI_n (j := 0) rfl⟩
      · exact ⟨3, by decide, atI_n (j := 1) rfl⟩
      · exact ⟨8, by decide, atI_n (j := 2) rfl⟩
    refine ⟨q0, _, _, _, rfl, rfl, SqT.of hq0, awd, ?_⟩
    have ep0 := kp0 _ _ (sq _ _ upd_same) n0
    have kpH : Kp t H H0 := (Kp.of (sp.trans sq)).trans kp0
    clear hq0 awd
    refine ⟨_, rfl, m, rfl, by omega, by omega, for_range (n := m.toNat) (fun i σ H1 => ∃ x4 x5 x6 xs, ∃ rs : List RQ, σ = [some (.ref t), some (.int m), some (.ref p), some (.int wd), x4, x5, x6] ∧ Kp t H H1 ∧ Tp H1 t l ∧ H1 p = some (.lst xs) ∧ DpAll K H1 xs (rs.map RQ.d) ∧ (∀ r ∈ rs, r.Ok) ∧ rs.length = i) ?_ ?_ ?_⟩
    · exact ⟨_, _, _, [], [], rfl, kpH, ht0, ep0, .nil, (fun r hr => nomatch hr), rfl⟩
    · rintro i σ H1 hi ⟨x4, x5, x6, xs, rs, rfl, kp, ht1, e1, hd, hok, hl⟩
      have hle : xs.length < sizeLine := by
        rw [Rb.DpAll.len hd, List.length_map, hl]
        exact Nat.lt_of_lt_of_le (show i < 101 by omega) (by decide)
      -- block
      refine ⟨_, rfl, _, rfl, t, l, wd, rfl, ht1, by omega, by omega, fun b H3 kp3 ht3 b0 b1 => ?_⟩
      have hd3 : DpAll K H3 xs (rs.map RQ.d) := Rb.DpAll.ts (kp3.ts ht1) _ _ (noLs_rqs rs) hd
      have e3 := kp3 _ _ e1 n0
      obtain ⟨nb, rfl⟩ : ∃ nb : Nat, b = (nb : Int) := ⟨b.toNat, by omega⟩
      -- kind
      refine ⟨_, rfl, t, l, 2, rfl, ht3, by decide, by decide, fun r2 H4 kp4 ht4 _ _ => ?_⟩
      have kp14 := kp3.trans kp4
      have e4 := kp4 _ _ e3 n0
      have hd4 : DpAll K H4 xs (rs.map RQ.d) := Rb.DpAll.ts (kp4.ts ht3) _ _ (noLs_rqs rs) hd3
      -- one more
      have more : ∀ {H5 : Hp} {q : Addr} {r : RQ} {x4' x5' x6' : Option V}, Kp t H4 H5 → Tp H5 t l → Dp K H5 (.ref q) r.d → r.Ok → H5 p = some (.lst xs) → DpAll K H5 xs (rs.map RQ.d) →
          ∃ x4 x5 x6 xs', ∃ rs' : List RQ, [some (.ref t), some (.int m), some (.ref p), some (.int wd), x4', x5', x6'] = [some (.ref t), some (.int m), some (.ref p), some (.int wd), x4, x5, x6] ∧ Kp t H (upd H5 p (.lst (xs ++ [.ref q]))) ∧ Tp (upd H5 p (.lst (xs ++ [.ref q]))) t l ∧ (upd H5 p (.lst (xs ++ [.ref q]))) p = some (.lst xs') ∧ DpAll K (upd H5 p (.lst (xs ++ [.ref q]))) xs' (rs'.map RQ.d) ∧ (∀ r ∈ rs', r.Ok) ∧ rs'.length = i + 1 := by
        intro H5 q r x4' x5' x6' kp5 ht5 hq5 hr5 e5 hd5
        have kH5 := (kp.trans kp14).trans kp5
        have ts : TSame K H5 (upd H5 p (.lst (xs ++ [.ref q]))) := TSame.lst e5
        refine ⟨_, _, _, xs ++ [.ref q], rs ++ [r], rfl, fun b o hb nb => ?_, ht5.upd n0 n1, upd_same, ?_, fun x hx => ?_, by rw [List.length_append, hl]; rfl⟩
        · rw [upd_ne (ne_of_none hb hp)]
          exact kH5 b o hb nb
        · rw [List.map_append]
          exact Rb.DpAll.app (Rb.DpAll.ts ts _ _ (noLs_rqs rs) hd5) (.cons (Rb.Dp.ts ts _ _ r.nl hq5) .nil)
        · rcases List.mem_append.mp hx with z | z
          · exact hok x z
          · rw [List.mem_singleton.mp z]
            exact hr5
      refine ⟨rfl, _, rfl, ite2 (fun _ => ?_) (fun _ => ?_)⟩
      · refine ⟨_, rfl, .inl ⟨rfl, _, SqL.of e4⟩, _, rfl, (by show 2 ≤ sizeLine; decide), fun q2 f2 => ?_⟩
        have s5 := Same.new (o := HO.tup [V.str "read", .int (nb : Int)]) (Same.refl H4) f2
        refine ⟨p, _, _, rfl, rfl, s5 _ _ e4, hle, ?_⟩
        exact more (r := ⟨false, nb, [0, 0, 0, 0]⟩) (Kp.of s5) (ht4.same s5) (.tup (SqT.of upd_same) (.cons (.str _) (.cons (.int _) .nil))) ⟨show nb < 8 by omega, rfl⟩ (s5 _ _ e4) (hd4.same s5)
      · refine ⟨_, rfl, .inl ⟨rfl, _, SqL.of e4⟩, _, rfl, 4, rfl, by decide, by decide, fun D hD => ?_⟩
        refine lc_range (n := 4) (fun j H5 => ∃ bl : List Int, bl.length = j ∧ H5 D = some (.lst (bl.map V.int)) ∧ Kp t H4 H5 ∧ Tp H5 t l) ?_ ?_ ?_
        · exact ⟨[], rfl, upd_same, Kp.refl.new ht4.at hD, ht4.same (Same.new (Same.refl H4) hD)⟩
        · rintro j H5 hj ⟨bl, hbl, e5, kp5, ht5⟩
          have nD := ht4.nt hD
          have nDl := ht4.nl hD
          refine ⟨rfl, ?_⟩
          refine ⟨_, rfl, t, l, 9, rfl, ht5, by decide, by decide, fun r3 H6 kp6 ht6 r30 r31 => ⟨_, _, rfl, rfl, _, kp6 _ _ e5 nD, ?_, bl ++ [r3 - 4], by rw [List.length_append, hbl]; rfl, ?_, ?_, ht6.upd nD nDl⟩⟩
          · rw [List.length_map, hbl]
            exact Nat.lt_trans hj (by decide)
          · rw [upd_same, List.map_append]
            rfl
          · intro b o hb nb'
            rw [upd_ne (ne_of_none hb hD)]
            exact (kp5.trans kp6) b o hb nb'
        · rintro H5 ⟨bl, hbl, e5, kp5, ht5⟩
          refine ⟨D, _, rfl, .inl ⟨SqL.of e5, fun q3 f3 => ⟨(by show 3 ≤ sizeLine; decide), fun q4 f4 => ?_⟩⟩⟩
          have s6 := Same.new (o := HO.tup (bl.map V.int)) (Same.refl H5) f3
          have s7 := Same.new (o := HO.tup [V.str "write", .int (nb : Int), .ref q3]) s6 (s6.free f4)
          have e7 := s7 _ _ (kp5 _ _ e4 n0)
          refine ⟨p, _, _, rfl, rfl, e7, hle, ?_⟩
          refine more (r := ⟨true, nb, bl⟩) (kp5.trans (Kp.of s7)) (ht5.same s7) (.tup (SqT.of upd_same) (.cons (.str _) (.cons (.int _) (.cons (.tup (SqT.of ?_) (dp_ints bl)) .nil)))) ⟨show nb < 8 by omega, hbl⟩ e7 ?_
          · rw [upd_ne (free_upd f4).1.symm, upd_same]
          · exact (Rb.DpAll.ts (kp5.ts ht4) _ _ (noLs_rqs rs) hd4).same s7
    · rintro σ H1 ⟨x4, x5, x6, xs, rs, rfl, kp, ht1, e1, hd, hok, hl⟩
      exact ⟨_, rfl, k p H1 xs rs kp ht1 hp e1 hd hok hl⟩
end
end Rb
namespace Rb
open PySem PySem.Spec PyProof.Rows L2
/-! ### how many are sent -/
/-- a write that waits for one before it -/
def Blk (rs : List RQ) (k : Nat) : Bool := match rs[k]? with
  | some r => r.wr && (((rs.take k).filter fun q => q.wr).any fun q => decide (q.blk = r.blk))
  | none => false
structure SentOk (rs : List RQ) (m : Nat) : Prop where
  m3 : m ≤ 3
  ml : m ≤ rs.length
  no : ∀ k, k < m → Blk rs k = false
  yes : m < 3 → m < rs.length → Blk rs m = true
def spSent (K : PySem.W.Frag) : Sp := fun vs H Q _ => ∃ (p : Addr) (xs : List V) (rs : List RQ), vs = [.ref p] ∧ H p = some (.lst xs) ∧ DpAll K H xs (rs.map RQ.d) ∧ rs.length ≤ 60 ∧ ∀ m H', SentOk rs m → Same H H' → Q (.int (m : Int)) H'
theorem inV_blk (l : List RQ) (b : Nat) : inV (.int (b : Int)) ((l.map fun q => (q.blk : Int)).map V.int) = l.any fun q => decide (q.blk = b) := by
  unfold inV
  rw [List.map_map, List.any_map]
  congr 1
  funext q
  show eqV (.int (q.blk : Int)) (.int (b : Int)) = _
  have e : decide (q.blk = b) = decide ((q.blk : Int) = (b : Int)) := by
    by_cases c : q.blk = b
    · rw [decide_eq_true c, decide_eq_true (by omega)]
    · rw [decide_eq_false c, decide_eq_false (by omega)]
  rw [e]
  rfl
section
variable {P : Program} {w : World} {K : PySem.W.Frag} {mg : Str → Option Value} {base : Heap}
theorem ok_sent (T : Top K mg) : FnC P w K mg base CX0 1 (He.ga K "_law_sent") (spSent K) := by
  refine fnc0 T.d__law_sent sc__law_sent (fun _ _ _ _ _ _ us hl => match us, hl with | [_], _ => rfl) (fun vs H Q E h => ?_) (fun cdv A outer s H vs Q E hr h => ?_)
  · obtain ⟨p, xs, rs, rfl, _⟩ := h
    rfl
  · obtain ⟨p, xs, rs, rfl, hp, hx, hl, k⟩ := h
    have lx : xs.length = rs.length := by rw [Rb.DpAll.len hx, List.length_map]
    refine ⟨_, (pss_cons (ps_set (i := 1) sc__law_sent.nd rfl (Or.inl rfl) (pe_lst pa_nil))
    (pss_cons (ps_for PassesOwn.never rfl (pi_range1 (by rfl) T.b_range (pa_cons (pe_callB (call_min2 rfl) (by rfl) T.b_min (by decide +kernel) (pa_cons pe_int (pa_cons (pe_callB call_len_seq (by rfl) T.b_len PySem.boot_len (pa_cons (pv 0) pa_nil)) pa_nil))) pa_nil)) (pg_name (i := 2) sc__law_sent.nd rfl (Or.inl rfl)) (pss_cons (ps_if (PW.pt (pw_and (pt_cmpR op_eq (pe_ix ix_tup (pe_ix ix_list (pv 0) (pv 2) (fun _ _ => rfl)) pe_int (fun _ _ => rfl)) pe_str (nomark _)) (pw_and1 (pt_cmpR op_in_seq (pe_ix ix_tup (pe_ix ix_list (pv 0) (pv 2) (fun _ _ => rfl)) pe_int (fun _ _ => rfl)) (pv 1) rfl)))) (pss_one (ps_ret (pv 2))) pss_nil)
    (pss_one (ps_if (pt_cmpR op_eq (pe_ix ix_tup (pe_ix ix_list (pv 0) (pv 2) (fun _ _ => rfl)) pe_int (fun _ _ => rfl)) pe_str (nomark _)) (pss_one (ps_expr (pe_bm PySem.F.plainAttrs_list PySem.F.slot_list_append PySem.F.type_list_append mt_append (pv 1) (pa_cons (pe_ix ix_tup (pe_ix ix_list (pv 0) (pv 2) (fun _ _ => rfl)) pe_int (fun _ _ => rfl)) pa_nil)))) pss_nil))))
    (pss_one (ps_ret (pe_callB (call_min2 rfl) (by rfl) T.b_min (by decide +kernel) (pa_cons pe_int (pa_cons (pe_callB call_len_seq (by rfl) T.b_len PySem.boot_len (pa_cons (pv 0) pa_nil)) pa_nil))))))), ?_⟩
    refine ⟨(by decide), fun b fb => ?_⟩
    have s0 := Same.new (o := HO.lst []) (Same.refl _) fb
    refine ⟨_, rfl, p, xs, rfl, .inl (SqL.of (s0 _ _ hp)), _, _, rfl, _, rfl, ?_, ?_, ?_⟩
    · split <;> omega
    · split <;> omega
    have en : (if (xs.length : Int) < 3 then (xs.length : Int) else 3).toNat = min 3 rs.length := by
      split <;> omega
    refine for_range (n := (if (xs.length : Int) < 3 then (xs.length : Int) else 3).toNat) (fun i σ H1 => ∃ x2, σ = [some (.ref p), some (.ref b), x2] ∧ (∀ j, j < i → Blk rs j = false) ∧ H1 b = some (.lst ((((rs.take i).filter fun q => q.wr).map fun q => (q.blk : Int)).map V.int)) ∧ Same H H1) ⟨_, rfl, (fun j z => nomatch z), upd_same, s0⟩ ?_ ?_
    · rintro i σ H1 hi ⟨x2, rfl, nb, eb, s1⟩
      rw [en] at hi
      rw [Int.zero_add]
      have p1 := s1 _ _ hp
      have hil : i < rs.length := by omega
      have hri : rs[i]? = some rs[i] := List.getElem?_eq_getElem hil
      obtain ⟨v, hv, hdv⟩ := dpAll_get' (hx.same s1) (show (rs.map RQ.d)[i]? = some rs[i].d by rw [List.getElem?_map, hri]; rfl)
      obtain ⟨t, rest, rfl, ht, _⟩ := rq_two hdv
      have bl : Blk rs i = (rs[i].wr && (((rs.take i).filter fun q => q.wr).any fun q => decide (q.blk = rs[i].blk))) := by
        unfold Blk
        rw [hri]
      have step : Blk rs i = false → ∀ j, j < i + 1 → Blk rs j = false := fun z j hj => by
        rcases (by omega : j < i ∨ j = i) with q | rfl
        · exact nb j q
        · exact z
      refine ⟨_, rfl, _, rfl, p, _, (i : Int), .ref t, rfl, rfl, SqL.of p1, atI_n hv, t, _, ((0 : Nat) : Int), .str (kindS rs[i].wr), rfl, rfl, ht, atI_n (j := 0) rfl, rfl, _, rfl, ?_⟩
      cases hw : rs[i].wr with
      | false =>
        refine iteN (by decide +kernel) (iteN (by decide) ?_)
        refine ⟨_, rfl, _, rfl, p, _, (i : Int), .ref t, rfl, rfl, SqL.of p1, atI_n hv, t, _, ((0 : Nat) : Int), .str (kindS rs[i].wr), rfl, rfl, ht, atI_n (j := 0) rfl, rfl, _, rfl, ?_⟩
        rw [hw]
        refine iteN (by decide +kernel) ?_
        refine ⟨_, rfl, step (by rw [bl, hw]; rfl), ?_, s1⟩
        rw [List.take_add_one, hri, List.filter_append]
        rw [show (some rs[i]).toList.filter (fun q : RQ => q.wr) = [] by
          show List.filter (fun q : RQ => q.wr) [rs[i]] = []
          rw [List.filter_cons_of_neg (by simp [hw])]
          rfl, List.append_nil]
        exact eb
      | true =>
        refine iteY (by decide +kernel) ?_
        refine ⟨_, rfl, _, rfl, p, _, (i : Int), .ref t, rfl, rfl, SqL.of p1, atI_n hv, t, _, ((1 : Nat) : Int), .int (rs[i].blk : Int), rfl, rfl, ht, atI_n (j := 1) rfl, _, rfl, b, _, rfl, .inl (SqL.of eb), rfl, ?_, ?_⟩
        · rw [List.all_map, List.all_eq_true]
          intro _ _
          rfl
        refine ⟨_, rfl, ?_⟩
        show if (inV (V.int (rs[i].blk : Int)) _) = true then _ else _
        rw [inV_blk]
        rw [hw, Bool.true_and] at bl
        rw [← bl]
        cases hb : Blk rs i with
        | true =>
          refine iteY rfl ?_
          exact ⟨_, rfl, k i H1 ⟨by omega, by omega, nb, fun _ _ => hb⟩ s1⟩
        | false =>
          refine iteN (by decide) ?_
          refine ⟨_, rfl, _, rfl, p, _, (i : Int), .ref t, rfl, rfl, SqL.of p1, atI_n hv, t, _, ((0 : Nat) : Int), .str (kindS rs[i].wr), rfl, rfl, ht, atI_n (j := 0) rfl, rfl, _, rfl, ?_⟩
          rw [hw]
          refine iteY (by decide +kernel) ?_
          refine ⟨_, rfl, .inl ⟨rfl, _, SqL.of eb⟩, _, rfl, _, rfl, p, _, (i : Int), .ref t, rfl, rfl, SqL.of p1, atI_n hv, t, _, ((1 : Nat) : Int), .int (rs[i].blk : Int), rfl, rfl, ht, atI_n (j := 1) rfl, ?_⟩
          refine ⟨b, _, _, rfl, rfl, eb, ?_, ?_⟩
          · rw [List.length_map, List.length_map, sizeLine_eq]
            have := List.length_filter_le (fun q : RQ => q.wr) (rs.take i)
            rw [List.length_take] at this
            omega
          refine ⟨_, rfl, step hb, ?_, Same.put s1 fb⟩
          rw [upd_same, List.take_add_one, hri, List.filter_append]
          rw [show (some rs[i]).toList.filter (fun q : RQ => q.wr) = [rs[i]] by
            show List.filter (fun q : RQ => q.wr) [rs[i]] = _
            rw [List.filter_cons_of_pos (by simp [hw])]
            rfl, List.map_append, List.map_append]
          rfl
    · rintro σ H1 ⟨x2, rfl, nb, eb, s1⟩
      rw [en] at nb
      have em : (if (xs.length : Int) < 3 then (xs.length : Int) else 3) = ((min 3 rs.length : Nat) : Int) := by
        split <;> omega
      refine ⟨_, rfl, p, xs, rfl, .inl (SqL.of (s1 _ _ hp)), _, _, rfl, ?_⟩
      rw [em]
      exact k _ H1 ⟨by omega, by omega, nb, fun z1 z2 => by omega⟩ s1
end
end Rb
namespace Rb
open PySem PySem.Spec PyProof.Rows L2
/-! ### what is due -/
def sendD (k : Nat) (r : RQ) : List PyData := fillD (k + 2) r.cs ++ handD k r
def sendO (rs : List RQ) (k : Nat) : List PyData := match rs[k]? with
  | some r => sendD k r
  | none => []
def dueS (rs : List RQ) (m : Nat) : List PyData := (List.range m).flatMap (sendO rs)
/-- the polls, from n accesses on, p polls before -/
def pollL : Nat → Nat → Nat → List PyData
  | 0, _, _ => []
  | f + 1, n, p => if n ≤ 209 then intrD :: (if (p + 1) % 4 = 0 then lookD :: pollL f (n + 2) (p + 1) else pollL f (n + 1) (p + 1)) else []
def dueD (rs : List RQ) (m : Nat) : List PyData := if m = 0 then lendD 0 else (lendD 0 ++ dueS rs m) ++ pollL 300 (2 + 7 * m) 0 ++ backD (List.range (2 + m))
theorem noLs_and {a b : List PyData} (h : noLs a = true) (h2 : noLs b = true) : noLs (a ++ b) = true := by rw [noLs_app, h, h2]; rfl
theorem sendD_nl (k : Nat) (r : RQ) : noLs (sendD k r) = true := noLs_and (fill_nl r.cs_nl _) rfl
theorem sendD_len {k : Nat} {r : RQ} (h : r.Ok) : (sendD k r).length = 7 := by
  unfold sendD fillD handD
  rw [List.length_append, List.length_map, List.length_range, RQ.cs_len h]
  rfl
theorem dueS_step {rs : List RQ} {k : Nat} {r : RQ} (h : rs[k]? = some r) : dueS rs (k + 1) = dueS rs k ++ sendD k r := by
  unfold dueS
  rw [List.range_succ, List.flatMap_append, List.flatMap_cons, List.flatMap_nil, List.append_nil]
  unfold sendO
  rw [h]
theorem dueS_nl {rs : List RQ} : ∀ {m : Nat}, m ≤ rs.length → noLs (dueS rs m) = true
  | 0, _ => rfl
  | k + 1, h => by
    rw [dueS_step (List.getElem?_eq_getElem (show k < rs.length by omega))]
    exact noLs_and (dueS_nl (by omega)) (sendD_nl _ _)
theorem dueS_len {rs : List RQ} (ok : ∀ r ∈ rs, r.Ok) : ∀ {m : Nat}, m ≤ rs.length → (dueS rs m).length = 7 * m
  | 0, _ => rfl
  | k + 1, h => by
    have e := List.getElem?_eq_getElem (show k < rs.length by omega)
    rw [dueS_step e, List.length_append, dueS_len ok (by omega), sendD_len (ok _ (List.mem_of_getElem? e))]
    omega
def spDue (K : PySem.W.Frag) : Sp := fun vs H Q _ => ∃ (p : Addr) (xs : List V) (rs : List RQ), vs = [.ref p] ∧ H p = some (.lst xs) ∧ DpAll K H xs (rs.map RQ.d) ∧ (∀ r ∈ rs, r.Ok) ∧ rs.length ≤ 60 ∧
  ∀ (m : Nat) (q r : Addr) (ys : List V) H', SentOk rs m → H' q = some (.tup [.ref r, .int (m : Int)]) → H' r = some (.lst ys) → DpAll K H' ys (dueD rs m) → H r = none → Same H H' → Q (.ref q) H'
section
variable {P : Program} {w : World} {K : PySem.W.Frag} {mg : Str → Option Value} {base : Heap}
theorem ok_due (T : Top K mg) : FnC P w K mg base CX0 5 (He.ga K "_law_due") (spDue K) := by
  have G_table_word := ok_table_word (P := P) (w := w) (base := base) T
  have G__law_sent := ok_sent (P := P) (w := w) (base := base) T
  have G__law_sending := ok_sdg (P := P) (w := w) (base := base) T
  have G_interrupt := ok_interrupt (P := P) (w := w) (base := base) T
  have G_frame_cell := ok_frame_cell (P := P) (w := w) (base := base) T
  refine fnc0 T.d__law_due sc__law_due (fun _ _ _ _ _ _ us hl => match us, hl with | [_], _ => rfl) (fun vs H Q E h => ?_) (fun cdv A outer s H vs Q E hr h => ?_)
  · obtain ⟨p, xs, rs, rfl, _⟩ := h
    rfl
  · obtain ⟨p, xs, rs, rfl, hp, hx, hok, hl, k⟩ := h
    have lx : xs.length = rs.length := by rw [Rb.DpAll.len hx, List.length_map]
    refine ⟨_, (pss_cons (ps_set (i := 1) sc__law_due.nd rfl (Or.inl rfl) (pe_lst (pa_cons (pe_tup (pa_cons pe_str (pa_cons (pe_f G_table_word hr (by decide) (by rfl) T.g_table_word pass0 (pa_cons pe_int (pa_cons pe_int pa_nil))) (pa_cons (pe_tup (pa_cons pe_int (pa_cons pe_str pa_nil))) pa_nil)))) (pa_cons (pe_tup (pa_cons pe_str (pa_cons (pe_f G_table_word hr (by decide) (by rfl) T.g_table_word pass0 (pa_cons pe_int (pa_cons pe_int pa_nil))) (pa_cons (pe_tup (pa_cons pe_int (pa_cons pe_str pa_nil))) pa_nil)))) pa_nil))))
    (pss_cons (ps_set (i := 2) sc__law_due.nd rfl (Or.inl rfl) (pe_f G__law_sent hr (by decide) (by rfl) T.g__law_sent pass0 (pa_cons (pv 0) pa_nil)))
    (pss_cons (ps_for PassesOwn.never rfl (pi_range1 (by rfl) T.b_range (pa_cons (pv 2) pa_nil)) (pg_name (i := 3) sc__law_due.nd rfl (Or.inl rfl)) (pss_one (ps_set (i := 1) sc__law_due.nd rfl (Or.inl rfl) (pe_op op_cat (pv 1) (pe_f G__law_sending hr (by decide) (by rfl) T.g__law_sending pass0 (pa_cons (pv 3) (pa_cons (pe_ix ix_list (pv 0) (pv 3) (fun _ _ => rfl)) pa_nil)))))))
    (pss_cons (ps_if (pt_cmpR op_eq (pv 2) pe_int (nomark _)) (pss_one (ps_ret (pe_tup (pa_cons (pv 1) (pa_cons pe_int pa_nil))))) pss_nil)
    (pss_cons (ps_set (i := 4) sc__law_due.nd rfl (Or.inl rfl) pe_int)
    (pss_cons (ps_while PassesOwn.never (pt_cmpR op_le (pe_callB call_len_seq (by rfl) T.b_len PySem.boot_len (pa_cons (pv 1) pa_nil)) pe_int (nomark _)) (pss_cons (ps_expr (pe_bm PySem.F.plainAttrs_list PySem.F.slot_list_append PySem.F.type_list_append mt_append (pv 1) (pa_cons (pe_tup (pa_cons pe_str (pa_cons (pe_f G_interrupt hr (by decide) (by rfl) T.g_interrupt pass0 (pa_cons pe_int pa_nil)) pa_nil))) pa_nil)))
    (pss_cons (ps_set (i := 4) sc__law_due.nd rfl (Or.inl rfl) (pe_op op_add (pv 4) pe_int))
    (pss_one (ps_if (pt_cmpR op_eq (pe_op op_mod (pv 4) pe_int) pe_int (nomark _)) (pss_one (ps_expr (pe_bm PySem.F.plainAttrs_list PySem.F.slot_list_append PySem.F.type_list_append mt_append (pv 1) (pa_cons (pe_tup (pa_cons pe_str (pa_cons (pe_f G_frame_cell hr (by decide) (by rfl) T.g_frame_cell pass0 (pa_cons pe_int (pa_cons pe_int (pa_cons pe_int pa_nil)))) pa_nil))) pa_nil)))) pss_nil)))))
    (pss_cons (ps_set (i := 5) sc__law_due.nd rfl (Or.inl rfl) (pe_listRg rfl (by rfl) T.b_list (prg_1 (by rfl) T.b_range (pe_op op_add pe_int (pv 2)))))
    (pss_cons (ps_set (i := 1) sc__law_due.nd rfl (Or.inl rfl) (pe_op op_cat (pv 1) (pe_lc (own := [("page", 6)]) (g := gName 6) (tt := tYes) rfl sc__law_due.nd (pi_list (pv 5)) (blkOk_by (N := ["requests", "rows", "many", "tag", "polls", "pages", "page"]) (sc := defScope s__law_due) (by decide +kernel)) (fun _ _ _ _ _ => (pg_name (i := 6) sc__law_due.nd rfl (Or.inl rfl))) (fun _ _ _ _ _ => pts_nil) (fun _ _ _ _ _ => (pe_tup (pa_cons pe_str (pa_cons (pe_f G_table_word hr (by decide) (by rfl) T.g_table_word pass0 (pa_cons pe_int (pa_cons (pv 6) pa_nil))) (pa_cons pe_non pa_nil))))))))
    (pss_one (ps_ret (pe_tup (pa_cons (pe_op op_cat (pv 1) (pe_lc (own := [("page", 6)]) (g := gName 6) (tt := tYes) rfl sc__law_due.nd (pi_list (pv 5)) (blkOk_by (N := ["requests", "rows", "many", "tag", "polls", "pages", "page"]) (sc := defScope s__law_due) (by decide +kernel)) (fun _ _ _ _ _ => (pg_name (i := 6) sc__law_due.nd rfl (Or.inl rfl))) (fun _ _ _ _ _ => pts_nil) (fun _ _ _ _ _ => (pe_tup (pa_cons pe_str (pa_cons (pv 6) pa_nil)))))) (pa_cons (pv 2) pa_nil))))))))))))), ?_⟩
    -- the rings
    refine ⟨_, _, rfl, (by show 2 ≤ sizeLine; decide), fun a1 f1 => ⟨(by show 3 ≤ sizeLine; decide), fun a2 f2 => ?_⟩⟩
    refine ⟨_, _, rfl, (by show 2 ≤ sizeLine; decide), fun a3 f3 => ⟨(by show 3 ≤ sizeLine; decide), fun a4 f4 => ⟨(by show 2 ≤ sizeLine; decide), fun r0 f5 => ?_⟩⟩⟩
    have t2 := Same.new (o := HO.tup [V.str "write", .int (tword 0 0), .ref a1]) (Same.refl _) f2
    have t3 := Same.new (o := HO.tup [V.int 1, .str "w"]) (Same.refl _) f3
    have t4 := Same.new (o := HO.tup [V.str "write", .int (tword 0 1), .ref a3]) (Same.refl _) f4
    have t5 := Same.new (o := HO.lst [V.ref a2, .ref a4]) (Same.refl _) f5
    have t1 := Same.new (o := HO.tup [V.int 0, .str "r"]) (Same.refl _) f1
    have s5 := (((t1.trans t2).trans t3).trans t4).trans t5
    have acc0 : AccL K H r0 (lendD 0) (upd (upd (upd (upd (upd H a1 (.tup [.int 0, .str "r"])) a2 (.tup [.str "write", .int (tword 0 0), .ref a1])) a3 (.tup [.int 1, .str "w"])) a4 (.tup [.str "write", .int (tword 0 1), .ref a3])) r0 (.lst [.ref a2, .ref a4])) :=
      ⟨[.ref a2, .ref a4], upd_same, .cons (.tup (SqT.of (((t3.trans t4).trans t5) _ _ upd_same)) (.cons (.str _) (.cons (.int _) (.cons (.tup (SqT.of ((((t2.trans t3).trans t4).trans t5) _ _ upd_same)) (.cons (.int _) (.cons (.str _) .nil))) .nil)))) (.cons (.tup (SqT.of (t5 _ _ upd_same)) (.cons (.str _) (.cons (.int _) (.cons (.tup (SqT.of ((t4.trans t5) _ _ upd_same)) (.cons (.int _) (.cons (.str _) .nil))) .nil)))) .nil), s5⟩
    have fr0 : H r0 = none := (((t1.trans t2).trans t3).trans t4).free f5
    obtain ⟨vs0, e0, d0, _⟩ := acc0
    refine ⟨_, rfl, p, xs, rs, rfl, s5 _ _ hp, hx.same s5, hl, fun m H6 hm s6 => ?_⟩
    have m3 := hm.m3
    have ml := hm.ml
    refine ⟨_, rfl, (m : Int), rfl, by omega, by omega, for_range (n := m) (fun i σ H1 => ∃ r vs x3, σ = [some (.ref p), some (.ref r), some (.int (m : Int)), x3, none, none, none] ∧ H1 r = some (.lst vs) ∧ DpAll K H1 vs (lendD 0 ++ dueS rs i) ∧ H r = none ∧ Same H H1) ⟨r0, vs0, _, rfl, s6 _ _ e0, d0.same s6, fr0, s5.trans s6⟩ ?_ ?_⟩
    · rintro i σ H1 hi ⟨r, vs, x3, rfl, er, hvs, fr, s1⟩
      rw [Int.zero_add]
      have hri : rs[i]? = some (rs[i]'(by omega)) := List.getElem?_eq_getElem _
      have hdi := hok _ (List.mem_of_getElem? hri)
      obtain ⟨v, hv, hdv⟩ := dpAll_get' (hx.same s1) (show (rs.map RQ.d)[i]? = some (rs[i]'(by omega)).d by rw [List.getElem?_map, hri]; rfl)
      refine ⟨_, rfl, _, rfl, _, rfl, _, rfl, p, _, (i : Int), v, rfl, rfl, SqL.of (s1 _ _ hp), atI_n hv, i, v, rs[i]'(by omega), rfl, by omega, hdv, hdi, fun q ys H2 fq eq hy s2 => ?_⟩
      refine cat_new (H := H) (s2 _ _ er) (hvs.same s2) eq hy (s1.trans s2) ?_ fun q2 zs H3 f3 e3 d3 s3 => ?_
      · rw [Rb.DpAll.len hvs, Rb.DpAll.len hy, List.length_append, dueS_len hok (by omega)]
        have := sendD_len (k := i) hdi
        unfold sendD at this
        rw [this]
        show 2 + 7 * i + 7 ≤ 4000
        omega
      refine ⟨q2, zs, _, rfl, e3, ?_, f3, s3⟩
      rw [dueS_step hri, ← List.append_assoc]
      exact d3
    rintro σ H7 ⟨r, vs, x3, rfl, er, hvs, fr, s7⟩
    refine ⟨_, rfl, rfl, _, rfl, ?_⟩
    by_cases c0 : m = 0
    · subst c0
      refine iteY (by decide) ?_
      refine ⟨_, rfl, (by show 2 ≤ sizeLine; decide), fun q fq => ?_⟩
      have s8 := Same.new (o := HO.tup [V.ref r, .int 0]) (Same.refl _) fq
      exact k 0 q r vs _ hm upd_same (s8 _ _ er) (by rw [show dueD rs 0 = lendD 0 ++ dueS rs 0 from rfl]; exact hvs.same s8) fr (s7.trans s8)
    refine iteN (by rw [decide_eq_true_eq]; intro z; injection z with z; omega) ?_
    have bnl : noLs (lendD 0 ++ dueS rs m) = true := noLs_and rfl (dueS_nl ml)
    have blen : (lendD 0 ++ dueS rs m).length = 2 + 7 * m := by rw [List.length_append, dueS_len hok ml]; rfl
    -- the polls
    refine ⟨fun f σ H1 => ∃ vs don n pc, σ = [some (.ref p), some (.ref r), some (.int (m : Int)), x3, some (.int ((pc : Nat) : Int)), none, none] ∧ H1 r = some (.lst vs) ∧ DpAll K H1 vs ((lendD 0 ++ dueS rs m) ++ don) ∧ noLs don = true ∧ vs.length = n ∧ don ++ pollL f n pc = pollL 300 (2 + 7 * m) 0 ∧ 210 ≤ f + n ∧ Same H H1, ⟨300, vs, [], 2 + 7 * m, 0, rfl, er, by rw [List.append_nil]; exact hvs, rfl, by rw [Rb.DpAll.len hvs, blen], rfl, by omega, s7⟩, ?_⟩
    rintro f σ H1 ⟨vs1, don, n, pc, rfl, e1, d1, nl1, ln, ep, fn, s1⟩
    refine ⟨_, rfl, r, vs1, rfl, .inl (SqL.of e1), _, _, rfl, rfl, _, rfl, ?_⟩
    have l1 := Rb.DpAll.len d1
    refine ite2 (fun c => ?_) (fun c => ?_)
    · have c : (vs1.length : Int) ≤ 209 := of_decide_eq_true c
      obtain ⟨f, rfl⟩ : ∃ g, f = g + 1 := ⟨f - 1, by omega⟩
      have eu : pollL (f + 1) n pc = intrD :: (if (pc + 1) % 4 = 0 then lookD :: pollL f (n + 2) (pc + 1) else pollL f (n + 1) (pc + 1)) := if_pos (show n ≤ 209 by omega)
      rw [eu] at ep
      refine ⟨fun σ H' => ∃ vs don n pc, σ = [some (.ref p), some (.ref r), some (.int (m : Int)), x3, some (.int ((pc : Nat) : Int)), none, none] ∧ H' r = some (.lst vs) ∧ DpAll K H' vs ((lendD 0 ++ dueS rs m) ++ don) ∧ noLs don = true ∧ vs.length = n ∧ don ++ pollL f n pc = pollL 300 (2 + 7 * m) 0 ∧ 210 ≤ f + n ∧ Same H H', fun σ' H' z => ⟨f, Nat.lt_succ_self f, z⟩, ?_⟩
      refine ⟨_, rfl, .inl ⟨rfl, _, SqL.of e1⟩, ?_⟩
      refine ⟨_, rfl, (by show 2 ≤ sizeLine; decide), fun q fq => ?_⟩
      have sq := Same.new (o := HO.tup [V.str "read", .int (dbell 0 + 3)]) (Same.refl _) fq
      obtain ⟨la, ea, aa⟩ := AccL.put' (v := .ref q) (d := intrD) ⟨vs1, e1, d1, s1⟩ e1 fr sq (.tup (SqT.of upd_same) (.cons (.str _) (.cons (.int _) .nil))) (noLs_and bnl nl1) rfl (by omega)
      refine ⟨r, vs1, _, rfl, rfl, ea, la, ?_⟩
      obtain ⟨vs2, e2, d2, s2⟩ := id aa
      have ev2 : vs2 = vs1 ++ [.ref q] := by
        rw [upd_same] at e2
        injection e2 with e2
        injection e2 with e2
        exact e2.symm
      have nl2 : noLs (don ++ [intrD]) = true := noLs_and nl1 rfl
      refine ⟨_, rfl, _, _, rfl, rfl, ?_⟩
      refine ⟨_, rfl, _, _, rfl, rfl, (by show (0 : Int) < 4; decide), rfl, _, rfl, ?_⟩
      by_cases c4 : (pc + 1) % 4 = 0
      · rw [if_pos c4] at ep
        refine iteY (by rw [decide_eq_true_eq]; show V.int (((pc : Int) + 1) % 4) = V.int 0; congr 1; omega) ?_
        refine ⟨_, rfl, .inl ⟨rfl, _, SqL.of e2⟩, ?_⟩
        refine ⟨_, _, _, rfl, (by show 2 ≤ sizeLine; decide), fun q3 f3 => ?_⟩
        have s3 := Same.new (o := HO.tup [V.str "read", .int (fcell 0 1 0)]) (Same.refl _) f3
        obtain ⟨lb, eb, ab⟩ := AccL.put' (v := .ref q3) (d := lookD) aa e2 fr s3 (.tup (SqT.of upd_same) (.cons (.str _) (.cons (.int _) .nil))) (noLs_and (noLs_and bnl nl1) rfl) rfl (by rw [List.length_append]; show _ + 1 < 4000; omega)
        refine ⟨r, vs2, _, rfl, rfl, eb, lb, ?_⟩
        obtain ⟨vs3, e3, d3, s3'⟩ := id ab
        have ev3 : vs3 = vs2 ++ [.ref q3] := by
          rw [upd_same] at e3
          injection e3 with e3
          injection e3 with e3
          exact e3.symm
        refine ⟨vs3, don ++ [intrD] ++ [lookD], n + 2, pc + 1, rfl, e3, ?_, noLs_and nl2 rfl, ?_, ?_, by omega, s3'⟩
        · rw [List.append_assoc (lendD 0 ++ dueS rs m), List.append_assoc] at d3
          rw [← List.append_assoc (lendD 0 ++ dueS rs m), ← List.append_assoc (lendD 0 ++ dueS rs m)]
          rw [← List.append_assoc, ← List.append_assoc] at d3
          exact d3
        · rw [ev3, ev2, List.length_append, List.length_append, ln]
          rfl
        · rw [← ep, List.append_assoc, List.append_assoc]
          rfl
      · rw [if_neg c4] at ep
        refine iteN (by rw [decide_eq_true_eq]; intro z; injection z with z; omega) ?_
        refine ⟨vs2, don ++ [intrD], n + 1, pc + 1, rfl, e2, ?_, nl2, ?_, ?_, by omega, s2⟩
        · rw [← List.append_assoc]
          exact d2
        · rw [ev2, List.length_append, ln]
          rfl
        · rw [← ep, List.append_assoc]
          rfl
    have c : ¬ (vs1.length : Int) ≤ 209 := fun z => c (decide_eq_true z)
    have ep0 : pollL f n pc = [] := by
      cases f with
      | zero => rfl
      | succ f => exact if_neg (by omega)
    rw [ep0, List.append_nil] at ep
    subst ep
    clear hvs e0 d0 s7 er s6 c fn
    -- the pages
    refine ⟨_, rfl, _, _, rfl, rfl, _, rfl, RgOk.of_le (by decide) (by omega) (by decide) (by omega), fun pg fpg => ?_⟩
    have sg := Same.new (o := HO.lst (rgV 0 (2 + (m : Int)))) (Same.refl _) fpg
    have erg : rgV 0 (2 + (m : Int)) = (List.range (2 + m)).map fun i : Nat => V.int (i : Int) := by
      unfold rgV
      rw [show ((2 : Int) + (m : Int) - 0).toNat = 2 + m by omega]
      refine List.map_congr_left fun i _ => ?_
      rw [Int.zero_add]
    have epg : (upd H1 pg (.lst (rgV 0 (2 + (m : Int))))) pg = some (.lst ((List.range (2 + m)).map fun i : Nat => V.int (i : Int))) := by rw [upd_same, erg]
    have e2 := sg _ _ e1
    have d2 := d1.same sg
    have s2 := s1.trans sg
    generalize upd H1 pg (.lst (rgV 0 (2 + (m : Int)))) = H2 at epg e2 d2 s2 ⊢
    obtain ⟨ps, eps⟩ : ∃ ps, ps = List.range (2 + m) := ⟨_, rfl⟩
    rw [← eps] at epg
    have pl : ps.length ≤ 5 := by
      rw [eps, List.length_range]
      omega
    have vl : vs1.length ≤ 2000 := by
      have : ∀ f n p, n ≤ 211 → (pollL f n p).length ≤ 213 - n := by
        intro f
        induction f with
        | zero =>
          intro n p _
          exact Nat.zero_le _
        | succ f ih =>
          intro n p hn
          unfold pollL
          split
          · split
            · have := ih (n + 2) (p + 1) (by omega)
              simp only [List.length_cons]
              omega
            · have := ih (n + 1) (p + 1) (by omega)
              simp only [List.length_cons]
              omega
          · exact Nat.zero_le _
      have q := this 300 (2 + 7 * m) 0 (by omega)
      rw [l1, List.length_append, blen]
      omega
    -- written None
    refine ⟨_, rfl, _, rfl, pg, rfl, ⟨_, SqL.of epg⟩, fun D hD => ?_⟩
    refine lc_list (K := K) (a := pg) (xs := ps.map fun i : Nat => V.int (i : Int)) (fun i H3 => AccL K H2 D ((ps.take i).map nilR) H3) (AccL.start hD) (fun i H3 _ ⟨_, _, _, s⟩ => SqL.of (s _ _ epg)) ?_ ?_
    · rintro i x H3 hi a
      obtain ⟨j, hj, rfl⟩ := ref_at hi
      refine ⟨rfl, ?_⟩
      refine ⟨_, rfl, _, _, rfl, (by show 3 ≤ sizeLine; decide), fun q fq => ?_⟩
      rw [List.take_add_one, hj, List.map_append]
      refine a.put hD (Same.new (o := HO.tup [V.str "write", .int (tword 0 j), .non]) (Same.refl _) fq) (d := nilR j) ?_ (noLs_map (fun _ => rfl) _) rfl (by rw [List.length_map, List.length_take]; omega)
      have ec : tword 0 (j : Int) = ((56 + j : Nat) : Int) := by
        unfold tword
        omega
      refine .tup (SqT.of upd_same) (.cons (.str _) (.cons ?_ (.cons .non .nil)))
      rw [ec]
      exact .int _
    rintro H3 ⟨ys, eD, dys, s3⟩
    rw [List.length_map, List.take_length] at dys
    have ly := Rb.DpAll.len dys
    rw [List.length_map] at ly
    refine cat_new (H := H2) (s3 _ _ e2) (d2.same s3) eD dys s3 (by omega) fun r4 vs4 H4 fr4 e4 d4 s4 => ?_
    have l4 := Rb.DpAll.len d4
    -- commanded
    refine ⟨_, rfl, _, rfl, pg, rfl, ⟨_, SqL.of (s4 _ _ epg)⟩, fun D2 hD2 => ?_⟩
    refine lc_list (K := K) (a := pg) (xs := ps.map fun i : Nat => V.int (i : Int)) (fun i H5 => AccL K H4 D2 ((ps.take i).map cmdR) H5) (AccL.start hD2) (fun i H5 _ ⟨_, _, _, s⟩ => SqL.of ((s4.trans s) _ _ epg)) ?_ ?_
    · rintro i x H5 hi a
      obtain ⟨j, hj, rfl⟩ := ref_at hi
      refine ⟨rfl, ?_⟩
      refine ⟨_, rfl, (by show 2 ≤ sizeLine; decide), fun q fq => ?_⟩
      rw [List.take_add_one, hj, List.map_append]
      exact a.put hD2 (Same.new (o := HO.tup [V.str "command", .int j]) (Same.refl _) fq) (d := cmdR j) (.tup (SqT.of upd_same) (.cons (.str _) (.cons (.int _) .nil))) (noLs_map (fun _ => rfl) _) rfl (by rw [List.length_map, List.length_take]; omega)
    rintro H5 ⟨zs, eD5, dzs, s5'⟩
    rw [List.length_map, List.take_length] at dzs
    have lz := Rb.DpAll.len dzs
    rw [List.length_map] at lz
    have lvs : vs4.length ≤ 2010 := by
      have := Rb.DpAll.len d2
      rw [l4, List.length_append, List.length_map, ← this]
      omega
    refine cat_new (H := H4) (s5' _ _ e4) (d4.same s5') eD5 dzs s5' (by omega) fun r6 vs6 H6 fr6 e6 d6 s6 => ?_
    refine ⟨_, rfl, (by show 2 ≤ sizeLine; decide), fun q fq => ?_⟩
    have s7 := Same.new (o := HO.tup [V.ref r6, .int (m : Int)]) (Same.refl _) fq
    have fin : Same H H6 := (s2.trans s4).trans s6
    refine k m q r6 vs6 _ hm upd_same (s7 _ _ e6) ?_ ((s2.trans s4).free fr6) (fin.trans s7)
    have e : dueD rs m = (lendD 0 ++ dueS rs m ++ pollL 300 (2 + 7 * m) 0 ++ ps.map nilR) ++ ps.map cmdR := by
      unfold dueD backD
      rw [if_neg c0, eps]
      simp only [List.append_assoc]
    rw [e]
    exact d6.same s7
end
end Rb
namespace Rb
open PySem PySem.Spec PyProof.Rows L2
/-! ### the driver's phases -/
def backL (m : Nat) : List PyData := backD (List.range (2 + m))
def tailS (rs : List RQ) (m k : Nat) : List PyData := if m = 0 then [] else (List.range' k (m - k)).flatMap (sendO rs) ++ (pollL 300 (2 + 7 * m) 0 ++ backL m)
theorem due_tail (rs : List RQ) (m : Nat) : dueD rs m = lendD 0 ++ tailS rs m 0 := by
  unfold dueD tailS
  by_cases c : m = 0
  · rw [if_pos c, if_pos c, List.append_nil]
  · rw [if_neg c, if_neg c]
    unfold dueS backL
    rw [List.range_eq_range', Nat.sub_zero]
    simp only [List.append_assoc]
theorem tail_step {rs : List RQ} {m k : Nat} (h : k < m) : tailS rs m k = sendO rs k ++ tailS rs m (k + 1) := by
  unfold tailS
  rw [if_neg (by omega), if_neg (by omega)]
  rw [show m - k = (m - (k + 1)) + 1 by omega, List.range'_succ, List.flatMap_cons, List.append_assoc]
theorem tail_end {rs : List RQ} {m : Nat} (h : 0 < m) : tailS rs m m = pollL 300 (2 + 7 * m) 0 ++ backL m := by
  unfold tailS
  rw [if_neg (by omega), Nat.sub_self]
  rfl
theorem backL_len (m : Nat) : (backL m).length = 2 * (2 + m) := by
  unfold backL backD
  rw [List.length_append, List.length_map, List.length_map, List.length_range]
  omega
theorem backL_ne (m : Nat) (l : List PyData) : l ++ backL m ≠ [] := fun z => by
  have := congrArg List.length z
  rw [List.length_append, backL_len] at this
  simp only [List.length_nil] at this
  omega
theorem tail_ne {rs : List RQ} {m k : Nat} (h : 0 < m) : tailS rs m k ≠ [] := by
  unfold tailS
  rw [if_neg (by omega), ← List.append_assoc]
  exact backL_ne _ _
structure Core (rs : List RQ) (f k : Nat) (D : DD) : Prop where
  bk : D.bk = false
  dv : D.dv = 0
  wr : D.wr = false
  n : D.n = k
  sq : D.sq = (k : Int)
  el : D.es.length = rs.length
  es : ∀ i x, D.es[i]? = some x → rs[i]? = some x.rq ∧ x.an = none ∧ x.fi.isSome = decide (i < f) ∧ x.sd = if i < k then 1 else 0
  sl : D.ss.length = f
  ss : ∀ i s, D.ss[i]? = some s → s.k = i ∧ rs[i]? = some s.rq ∧ (i < k → s.ru = 9 + 7 * (i : Int))
  un : D.unsent = (List.range (rs.length - f)).map fun i => ((f + i : Nat) : Int)
  kf : k ≤ f
  f3 : f ≤ 3
def frees (f : Nat) : List Int := (List.range (4 - f)).map fun i => ((f + 2 + i : Nat) : Int)
inductive St
  | due (rem : List PyData) | wait | rst | rdy (j : Nat) | brk
inductive PhS (rs : List RQ) (m : Nat) : St → Int → DD → Prop
  | lend {D : DD} {i : Nat} (hi : i < 2) (c : Core rs 0 0 D) (fr : D.free = frees 0) (md : D.md = (i : Int)) (th : D.th = .rest) (le : D.left = (lendD 0).drop i) (re : D.res.length ≤ i) (pt : D.pt = 0) : PhS rs m (.due ((lendD 0).drop i ++ tailS rs m 0)) 0 D
  | idle {D : DD} {k : Nat} (hk : k < m ∨ k = 0 ∧ m = 0) (c : Core rs k k D) (fr : D.free = frees k) (md : D.md = 2 + 7 * (k : Int)) (le : D.left = []) (pt : D.pt = 0) : PhS rs m (.due (tailS rs m k)) 0 D
  | send {D : DD} {k i : Nat} (hk : k < m) (hi : i < 7) (c : Core rs (k + 1) k D) (fr : D.free = frees (k + 1)) (md : D.md = 2 + 7 * (k : Int) + (i : Int)) (th : D.th = .ends) (le : D.left = (sendO rs k).drop i) (re : D.res.length ≤ i) (pt : D.pt = 0) : PhS rs m (.due ((sendO rs k).drop i ++ tailS rs m (k + 1))) 0 D
  | pidle {D : DD} {f n p : Nat} (hm : 0 < m) (c : Core rs m m D) (md : D.md = (n : Int)) (n0 : 2 + 7 * m ≤ n) (n1 : n ≤ 211) (fn : 210 ≤ f + n) (le : D.left = []) (pt : D.pt = ((p % 4 : Nat) : Int)) : PhS rs m (.due (pollL f n p ++ backL m)) 0 D
  | poll {D : DD} {f n p : Nat} (hm : 0 < m) (c : Core rs m m D) (md : D.md = (n : Int)) (n0 : 2 + 7 * m ≤ n) (n1 : n ≤ 209) (fn : 210 ≤ f + n) (th : D.th = .intr) (le : D.left = [intrD]) (re : D.res = []) (pt : D.pt = ((p % 4 : Nat) : Int)) : PhS rs m (.due (pollL f n p ++ backL m)) 0 D
  | look {D : DD} {f n p : Nat} (hm : 0 < m) (c : Core rs m m D) (md : D.md = (n : Int)) (n0 : 2 + 7 * m ≤ n) (n1 : n ≤ 210) (fn : 210 ≤ f + (n + 1)) (p4 : p % 4 = 0) (th : D.th = .comp) (le : D.left = [lookD]) (re : D.res = []) : PhS rs m (.due (lookD :: (pollL f (n + 1) p ++ backL m))) 0 D
  | back {D : DD} {i n : Nat} (hm : 0 < m) (hi : i < 2 * (2 + m)) (c : Core rs m m D) (md : D.md = (n : Int) + (i : Int)) (n0 : 210 ≤ n) (bh : D.bh = true) (th : D.th = .tick) (le : D.left = (backL m).drop i) (re : D.res.length ≤ i) : PhS rs m (.due ((backL m).drop i)) ((i - (2 + m) : Nat) : Int) D
  | wait {D : DD} (hm : 0 < m) (c : Core rs m m D) (md : 210 ≤ D.md) (bh : D.bh = true) (th : D.th = .ackn) (le : D.left = [ackD]) (re : D.res = []) (tk : D.tk = ((2 + m : Nat) : Int)) : PhS rs m .wait ((2 + m : Nat) : Int) D
  | rst {D : DD} {t : Int} (hm : 0 < m) (c : Core rs m m D) (th : D.th = .rdy) (le : D.left = [rstD, rdyD]) (re : D.res = []) (rg : D.rg = 0) : PhS rs m .rst t D
  | rdy {D : DD} {t : Int} {j : Nat} (hm : 0 < m) (hj : j < 100) (c : Core rs m m D) (th : D.th = .rdy) (le : D.left = [rdyD]) (re : D.res.length ≤ 1) (rg : D.rg = (j : Int)) : PhS rs m (.rdy j) t D
  | brk {D : DD} {t : Int} (hm : 0 < m) (bk : D.bk = true) (le : D.left = []) (dv : D.dv = 0) (an : ∀ x ∈ D.es, x.an.isSome = true) (el : D.es.length = rs.length) (n : D.n = 0) : PhS rs m .brk t D
/-- what the law says of an access -/
def Nxt (m : Nat) (num : Int) : St → PyData → PyData → St → DD → Prop
  | .due rem, q, _, st, _ => ∃ rem', rem = q :: rem' ∧ ((rem' ≠ [] ∧ st = .due rem') ∨ (rem' = [] ∧ 0 < m ∧ st = .wait) ∨ (rem' = [] ∧ m = 0 ∧ st = .due []))
  | .wait, q, rd, st, D => q = ackD ∧ ∃ r : Int, rd = .int r ∧ ((r = ((2 + m : Nat) : Int) ∧ st = .rst ∧ D.free = [2, 3, 4, 5]) ∨ (r ≠ ((2 + m : Nat) : Int) ∧ st = .wait))
  | .rst, q, _, st, _ => q = rstD ∧ st = .rdy 0
  | .rdy j, q, _, st, D => q = rdyD ∧ j < 100 ∧ ((j + 1 < 100 ∧ st = .rdy (j + 1)) ∨ (j + 1 = 100 ∧ st = .brk ∧ (∀ x ∈ D.es, x.an = some num) ∧ (D.es.filter fun x => x.fi.isSome).length = m))
  | .brk, _, _, _, _ => False
def FX (rs : List RQ) (m : Nat) (st : St) (A : AM) (md : Int) : AM → DD → Prop := fun A' D' => ∃ wd ds rd st', DrvReq wd ds ∧ A'.log = A.log ++ [logD (A.log.length + 1) "driver" 0 wd ds rd] ∧ Nxt m (A.log.length + 1) st (.tuple (.str wd :: ds)) rd st' D' ∧ PhS rs m st' (A'.tix 0) D' ∧ D'.md = md + 1
/-! ### which accesses -/
def ReqW (q : PyData) : Prop := ∃ wd ds, q = .tuple (.str wd :: ds) ∧ DrvReq wd ds ∧ wd ≠ "command"
theorem ints_gv {l : List Int} {i : Nat} {x : PyData} (h : (l.map PyData.int)[i]? = some x) : GV x := by
  rw [List.getElem?_map] at h
  cases e : l[i]? with
  | none =>
    rw [e] at h
    cases h
  | some j =>
    rw [e] at h
    cases h
    exact .int
theorem fill_req {k : Nat} {r : RQ} {i : Nat} (hk : k < 4) (hi : i < 4) (ok : r.Ok) : ReqW (fillR (k + 2) r.cs i) := by
  refine ⟨"write", _, rfl, .fr (c := (k + 2) * 4 + i) (by omega) (by omega) ?_, by decide⟩
  have hl := RQ.cs_len ok
  have key : ∀ x, r.cs[i]? = some x → GV x := fun x h => by
    unfold RQ.cs at h
    split at h
    · exact ints_gv h
    · exact ints_gv (l := [0, 0, 0, 0]) h
  have e : r.cs[i]? = some (r.cs[i]'(by omega)) := List.getElem?_eq_getElem _
  rw [e]
  exact key _ e
theorem desc_gv {k : Nat} {r : RQ} : GV (descD k r) := ⟨rfl, rfl, Nat.le_of_ble_eq_true rfl, Gd.tup (n := 1) fun d hd => by
  simp only [List.mem_cons, List.not_mem_nil, or_false] at hd
  rcases hd with rfl | rfl | rfl | rfl | rfl
  · exact .int
  · exact .str (by cases r.wr <;> decide +kernel)
  · exact .int
  · exact .int
  · exact .int⟩
theorem word_of {f : Nat} {b : Bool} (h : f < 6) : wordF (.tuple [.int (f : Int), .str (rightS b)]) := ⟨f, rightS b, rfl, h, by cases b; exact .inr rfl; exact .inl rfl⟩
theorem send_req {k : Nat} {r : RQ} (hk : k < 4) (ok : r.Ok) : ∀ q ∈ sendD k r, ReqW q := by
  intro q hq
  unfold sendD at hq
  rcases List.mem_append.mp hq with h | h
  · unfold fillD at h
    obtain ⟨i, hi, rfl⟩ := List.mem_map.mp h
    rw [RQ.cs_len ok] at hi
    exact fill_req hk (List.mem_range.mp hi) ok
  · unfold handD at h
    simp only [List.mem_cons, List.not_mem_nil, or_false] at h
    rcases h with rfl | rfl | rfl
    · exact ⟨"write", _, rfl, .tw (p := k + 2) (by omega) (.inr (word_of (by omega))), by decide⟩
    · exact ⟨"write", _, rfl, .fr (c := k) (by omega) (by omega) desc_gv, by decide⟩
    · exact ⟨"write", _, rfl, .rg (.inl rfl), by decide⟩
theorem lend_req : ∀ q ∈ lendD 0, ReqW q := by
  intro q hq
  unfold lendD at hq
  simp only [List.mem_cons, List.not_mem_nil, or_false] at hq
  rcases hq with rfl | rfl
  · exact ⟨"write", _, rfl, .tw (p := 0) (by decide) (.inr ⟨0, "r", rfl, by decide, .inl rfl⟩), by decide⟩
  · exact ⟨"write", _, rfl, .tw (p := 1) (by decide) (.inr ⟨1, "w", rfl, by decide, .inr rfl⟩), by decide⟩
theorem DrvReq.gd {w : Str} {ds : List PyData} (h : DrvReq w ds) : Gd 3 (.tuple (.str w :: ds)) := by
  cases h with
  | @tw p v hp hv =>
    refine Gd.tup (n := 2) fun d hd => ?_
    simp only [List.mem_cons, List.not_mem_nil, or_false] at hd
    rcases hd with rfl | rfl | rfl
    · exact .str (by decide +kernel)
    · exact .int
    · rcases hv with rfl | hv
      · exact .none
      · exact hv.gd.up (by decide)
  | @fr c v hc h4 hv =>
    refine Gd.tup (n := 2) fun d hd => ?_
    simp only [List.mem_cons, List.not_mem_nil, or_false] at hd
    rcases hd with rfl | rfl | rfl
    · exact .str (by decide +kernel)
    · exact .int
    · exact hv.gd
  | rg hc =>
    refine Gd.tup (n := 2) fun d hd => ?_
    simp only [List.mem_cons, List.not_mem_nil, or_false] at hd
    rcases hd with rfl | rfl | rfl
    · exact .str (by decide +kernel)
    · exact .int
    · exact .int
  | rd hc =>
    refine Gd.tup (n := 2) fun d hd => ?_
    simp only [List.mem_cons, List.not_mem_nil, or_false] at hd
    rcases hd with rfl | rfl
    · exact .str (by decide +kernel)
    · exact .int
  | cm hp =>
    refine Gd.tup (n := 2) fun d hd => ?_
    simp only [List.mem_cons, List.not_mem_nil, or_false] at hd
    rcases hd with rfl | rfl
    · exact .str (by decide +kernel)
    · exact .int
end Rb
namespace Rb
open PySem PySem.Spec PyProof.Rows L2
/-! ### an access of each phase -/
def CoreEq (D D' : DD) : Prop := D'.bk = D.bk ∧ D'.dv = D.dv ∧ D'.wr = D.wr ∧ D'.n = D.n ∧ D'.sq = D.sq ∧ D'.es = D.es ∧ D'.ss = D.ss ∧ D'.unsent = D.unsent
theorem Core.eq {rs : List RQ} {f k : Nat} {D D' : DD} (c : Core rs f k D) (h : CoreEq D D') : Core rs f k D' := by
  obtain ⟨h1, h2, h3, h4, h5, h6, h7, h8⟩ := h
  exact ⟨h1.trans c.bk, h2.trans c.dv, h3.trans c.wr, h4.trans c.n, h5.trans c.sq, by rw [h6]; exact c.el, by rw [h6]; exact c.es, by rw [h7]; exact c.sl, by rw [h7]; exact c.ss, h8.trans c.un, c.kf, c.f3⟩
theorem get_some_of_lt {α : Type} {l : List α} {i : Nat} (h : i < l.length) : ∃ x, l[i]? = some x := ⟨l[i], List.getElem?_eq_getElem h⟩
theorem Core.ssAt {rs : List RQ} {f k : Nat} {X : DV} (c : Core rs f k X.dat) {i : Nat} (h : i < f) : ∃ s, X.ss[i]? = some s ∧ s.k = i ∧ (i < k → s.ru = 9 + 7 * (i : Int)) ∧ rs[i]? = some s.rq := by
  have sl : (X.ss.map SX.dat).length = f := c.sl
  rw [List.length_map] at sl
  obtain ⟨s, hs⟩ := get_some_of_lt (l := X.ss) (i := i) (by omega)
  obtain ⟨a, b, d⟩ := c.ss i s.dat (by show (X.ss.map SX.dat)[i]? = _; rw [List.getElem?_map, hs]; rfl)
  exact ⟨s, hs, a, d, b⟩
theorem Core.esAt {rs : List RQ} {f k : Nat} {X : DV} (c : Core rs f k X.dat) {i : Nat} {x : EX} (h : X.es[i]? = some x) : rs[i]? = some x.rq ∧ x.an = none ∧ x.fi.isSome = decide (i < f) ∧ x.sd = if i < k then 1 else 0 :=
  c.es i x.dat (by show (X.es.map EX.dat)[i]? = _; rw [List.getElem?_map, h]; rfl)
theorem Core.esl {rs : List RQ} {f k : Nat} {X : DV} (c : Core rs f k X.dat) : X.es.length = rs.length := by
  have := c.el
  have e : (X.es.map EX.dat).length = rs.length := this
  rw [List.length_map] at e
  exact e
theorem Core.wsl {rs : List RQ} {f k : Nat} {X : DV} (c : Core rs f k X.dat) : X.ws.length = k := by
  have sl : (X.ss.map SX.dat).length = f := c.sl
  rw [List.length_map] at sl
  have n : X.n = k := c.n
  have := c.kf
  unfold DV.ws
  rw [List.length_take]
  omega
theorem Core.wsAt {rs : List RQ} {f k : Nat} {X : DV} (c : Core rs f k X.dat) {i : Nat} (h : i < k) : ∃ s, X.ws[i]? = some s ∧ s.k = i ∧ s.ru = 9 + 7 * (i : Int) ∧ rs[i]? = some s.rq := by
  have := c.kf
  obtain ⟨s, hs, a, b, d⟩ := c.ssAt (i := i) (by omega)
  refine ⟨s, ?_, a, b h, d⟩
  have n : X.n = k := c.n
  unfold DV.ws
  rw [n, List.getElem?_take_of_lt h]
  exact hs
theorem Core.wk {rs : List RQ} {f k : Nat} {X : DV} (c : Core rs f k X.dat) : X.Wk := by
  have l := c.wsl
  refine ⟨List.ext_getElem? fun i => ?_, by have := c.kf; have := c.f3; omega⟩
  rw [List.getElem?_map]
  by_cases h : i < k
  · obtain ⟨s, hs, e, _⟩ := c.wsAt h
    rw [hs, List.getElem?_range (by omega)]
    show some s.k = _
    rw [e]
  · rw [List.getElem?_eq_none (by omega), List.getElem?_eq_none (by rw [List.length_range]; omega)]
    rfl
def RdQ (A : AM) (q rd : PyData) : Prop := (q = intrD → rd = .int 0) ∧ (q = rdyD → rd = .int 0) ∧ (q = lookD → rd = .none) ∧ (q = ackD → ∃ k : Int, rd = .int k ∧ k ≤ A.tix 0)
theorem rdq_of {A A2 : AM} {wd : Str} {ds : List PyData} {rd : PyData} (h : RdD A A2 wd ds rd) : RdQ A (.tuple (.str wd :: ds)) rd := by
  have go : ∀ {i : Int}, PyData.tuple (.str wd :: ds) = .tuple [.str "read", .int i] → wd = "read" ∧ ds = [.int i] := fun e => by
    injection e with e
    injection e with e1 e2
    injection e1 with e1
    exact ⟨e1, e2⟩
  exact ⟨fun e => h.ri (go e).1 (go e).2, fun e => h.ry (go e).1 (go e).2, fun e => h.rc (go e).1 (go e).2, fun e => h.ra (go e).1 (go e).2⟩
theorem accq_mk {rs : List RQ} {m : Nat} {st : St} {A : AM} {X : DV} {q : PyData} {rest : List PyData} (hl : X.left = q :: rest) (hq : ReqW q) (hlen : X.left.length ≤ 4000) (hre : X.res.length ≤ 900)
    (h : ∀ rd, RdQ A q rd → (rest = [] → ThOk (accX X rest rd)) ∧ ∀ D, (rest ≠ [] → D = (accX X rest rd).dat) → (rest = [] → ThenR (accX X rest rd) (A.log.length + 1) D) → ∃ st', Nxt m (A.log.length + 1) st q rd st' D ∧ PhS rs m st' (A.tix 0) D ∧ D.md = X.md + 1) : AccQ A X (FX rs m st A X.md) := by
  obtain ⟨wd, ds, rfl, hd, nc⟩ := hq
  refine ⟨wd, ds, rest, hl, hd, hlen, hre, fun rd A2 g hr nr hlog => ?_⟩
  obtain ⟨h1, h2⟩ := h rd (rdq_of hr)
  refine ⟨h1, fun D d1 d2 => ?_⟩
  obtain ⟨st', n1, p1, e1⟩ := h2 D d1 d2
  have et : A2.tix 0 = A.tix 0 := by
    have := hr.tx
    rw [if_neg nc, Int.add_zero] at this
    exact this
  exact ⟨wd, ds, rd, st', hd, hlog, n1, by rw [et]; exact p1, e1⟩
theorem accq_cm {rs : List RQ} {m : Nat} {st : St} {A : AM} {X : DV} {p : Nat} {rest : List PyData} (hl : X.left = cmdR p :: rest) (hp : p < 6) (hlen : X.left.length ≤ 4000) (hre : X.res.length ≤ 900)
    (h : (rest = [] → ThOk (accX X rest (.int (A.tix 0 + 1)))) ∧ ∀ D, (rest ≠ [] → D = (accX X rest (.int (A.tix 0 + 1))).dat) → (rest = [] → ThenR (accX X rest (.int (A.tix 0 + 1))) (A.log.length + 1) D) → ∃ st', Nxt m (A.log.length + 1) st (cmdR p) (.int (A.tix 0 + 1)) st' D ∧ PhS rs m st' (A.tix 0 + 1) D ∧ D.md = X.md + 1) : AccQ A X (FX rs m st A X.md) := by
  refine ⟨"command", _, rest, hl, .cm hp, hlen, hre, fun rd A2 g hr nr hlog => ?_⟩
  have er := hr.cm rfl
  subst er
  obtain ⟨h1, h2⟩ := h
  refine ⟨h1, fun D d1 d2 => ?_⟩
  obtain ⟨st', n1, p1, e1⟩ := h2 D d1 d2
  have et : A2.tix 0 = A.tix 0 + 1 := by
    have := hr.tx
    rw [if_pos rfl] at this
    exact this
  exact ⟨_, _, _, st', .cm hp, hlog, n1, by rw [et]; exact p1, e1⟩
/-! what a continuation leaves, by its name -/
section
variable {X : DV} {num : Int} {D : DD}
theorem ThenR.of_rest (h : ThenR X num D) (e : X.th = .rest) : D = X.dat := by
  cases h with
  | rest _ => rfl
  | ends h | intr h | comp h | tick h | ackn h | rdy h => rw [e] at h; cases h
theorem ThenR.of_ends (h : ThenR X num D) (e : X.th = .ends) : ∃ s x, X.ss[X.n]? = some s ∧ X.es[s.k]? = some x ∧ D = { X.dat with ss := X.dat.ss.set X.n { s.dat with ru := X.md }, n := X.n + 1, sq := X.sq + 1, es := X.dat.es.set s.k { x.dat with sd := x.sd + 1 } } := by
  cases h with
  | ends _ hs he => exact ⟨_, _, hs, he, rfl⟩
  | rest h | intr h | comp h | tick h | ackn h | rdy h => rw [e] at h; cases h
theorem ThenR.of_intr (h : ThenR X num D) (e : X.th = .intr) : D = if X.pt + 1 = 4 then { X.dat with pt := X.pt + 1, left := [lookD], res := [], th := .comp } else { X.dat with pt := X.pt + 1 } := by
  cases h with
  | intr _ => rfl
  | rest h | ends h | comp h | tick h | ackn h | rdy h => rw [e] at h; cases h
theorem ThenR.of_comp (h : ThenR X num D) (e : X.th = .comp) : D = { X.dat with pt := 0 } := by
  cases h with
  | comp _ => rfl
  | rest h | ends h | intr h | tick h | ackn h | rdy h => rw [e] at h; cases h
theorem ThenR.of_tick (h : ThenR X num D) (e : X.th = .tick) {ds : List PyData} {t : Int} (er : X.res = ds ++ [.int t]) : D = { X.dat with tk := t, left := [ackD], res := [], th := .ackn } := by
  cases h with
  | @tick _ ds2 t2 hr =>
    rw [er] at hr
    have := List.append_inj_right' hr rfl
    injection this with this
    injection this with this
    rw [this]
  | rest h | ends h | intr h | comp h | ackn h | rdy h => rw [e] at h; cases h
theorem ThenR.of_ackn (h : ThenR X num D) (e : X.th = .ackn) {ds : List PyData} {r : Int} (er : X.res = .int r :: ds) : D = if r ≥ X.tk then { X.dat with free := [2, 3, 4, 5], rg := 0, left := [rstD, rdyD], res := [], th := .rdy } else { X.dat with left := [ackD], res := [], th := .ackn } := by
  cases h with
  | @ackn _ ds2 r2 hr =>
    rw [er] at hr
    injection hr with hr
    injection hr with hr
    rw [hr]
  | rest h | ends h | intr h | comp h | tick h | rdy h => rw [e] at h; cases h
theorem ThenR.of_rdy (h : ThenR X num D) (e : X.th = .rdy) : D = if X.rg + 1 < 100 then { X.dat with rg := X.rg + 1, left := [rdyD], res := [], th := .rdy } else { X.dat with rg := X.rg + 1, bk := true, n := 0, es := X.dat.es.map fun x => { x with an := some num } } := by
  cases h with
  | rdy _ => rfl
  | rest h | ends h | intr h | comp h | tick h | ackn h => rw [e] at h; cases h
end
end Rb
namespace Rb
open PySem PySem.Spec PyProof.Rows L2
section
variable {rs : List RQ} {m : Nat} {A : AM} {X : DV}
theorem drop_cons' {α : Type} {l : List α} {i : Nat} (h : i < l.length) : l.drop i = l[i] :: l.drop (i + 1) := List.drop_eq_getElem_cons h
theorem acc_lend {i : Nat} (hi : i < 2) (c : Core rs 0 0 X.dat) (fr : X.free = frees 0) (md : X.md = (i : Int)) (th : X.th = .rest) (le : X.left = (lendD 0).drop i) (re : X.res.length ≤ i) (pt : X.pt = 0) (ht : A.tix 0 = 0) : AccQ A X (FX rs m (.due ((lendD 0).drop i ++ tailS rs m 0)) A X.md) := by
  rcases (by omega : i = 0 ∨ i = 1) with rfl | rfl
  · refine accq_mk (q := lendR 0 0) (rest := [lendR 0 1]) le (lend_req _ (List.mem_cons_self ..)) (by rw [le]; decide) (by omega) fun rd hrd => ⟨fun z => (nomatch z), fun D d1 _ => ?_⟩
    rw [d1 (fun z => (nomatch z)), ht]
    refine ⟨.due ((lendD 0).drop 1 ++ tailS rs m 0), ⟨_, rfl, .inl ⟨fun z => (nomatch z), rfl⟩⟩, .lend (by decide) (c.eq ⟨rfl, rfl, rfl, rfl, rfl, rfl, rfl, rfl⟩) fr ?_ th rfl ?_ pt, rfl⟩
    · show X.md + 1 = ((1 : Nat) : Int)
      rw [md]
      rfl
    · show (X.res ++ [rd]).length ≤ 1
      rw [List.length_append]
      exact Nat.succ_le_succ re
  · refine accq_mk (q := lendR 0 1) (rest := []) le (lend_req _ (List.mem_cons_of_mem _ (List.mem_cons_self ..))) (by rw [le]; decide) (by omega) fun rd hrd => ⟨fun _ => ?_, fun D _ d2 => ?_⟩
    · unfold ThOk
      rw [show (accX X [] rd).th = .rest from th]
      trivial
    rw [(d2 rfl).of_rest th, ht]
    have ph : PhS rs m (.due (tailS rs m 0)) 0 (accX X [] rd).dat := .idle (by omega) (c.eq ⟨rfl, rfl, rfl, rfl, rfl, rfl, rfl, rfl⟩) fr (by show X.md + 1 = _; rw [md]; rfl) rfl pt
    by_cases c0 : 0 < m
    · exact ⟨.due (tailS rs m 0), ⟨_, rfl, .inl ⟨tail_ne c0, rfl⟩⟩, ph, rfl⟩
    · have m0 : m = 0 := by omega
      subst m0
      exact ⟨.due [], ⟨_, rfl, .inr (.inr ⟨rfl, rfl, rfl⟩)⟩, ph, rfl⟩
theorem acc_send (ok : ∀ r ∈ rs, r.Ok) (hs : SentOk rs m) (sn : SnOk X) {k i : Nat} (hk : k < m) (hi : i < 7) (c : Core rs (k + 1) k X.dat) (fr : X.free = frees (k + 1)) (md : X.md = 2 + 7 * (k : Int) + (i : Int)) (th : X.th = .ends) (le : X.left = (sendO rs k).drop i) (re : X.res.length ≤ i) (pt : X.pt = 0) (ht : A.tix 0 = 0) : AccQ A X (FX rs m (.due ((sendO rs k).drop i ++ tailS rs m (k + 1))) A X.md) := by
  have ml := hs.ml
  have m3 := hs.m3
  have e := List.getElem?_eq_getElem (show k < rs.length by omega)
  have okr := ok _ (List.mem_of_getElem? e)
  have es : sendO rs k = sendD k (rs[k]'(by omega)) := by
    unfold sendO
    rw [e]
  rw [es] at le ⊢
  have l7 := sendD_len (k := k) okr
  have sr := send_req (k := k) (by omega) okr
  generalize sendD k (rs[k]'(by omega)) = L at le l7 sr es ⊢
  have dc := drop_cons' (show i < L.length by omega)
  rw [dc] at le
  have ne : X.left ≠ [] := by
    rw [le]
    exact fun z => nomatch z
  refine accq_mk le (sr _ (List.getElem_mem ..)) (by rw [le, List.length_cons, List.length_drop]; omega) (by omega) fun rd hrd => ?_
  by_cases c6 : i = 6
  · subst c6
    have d7 : L.drop (6 + 1) = [] := List.drop_eq_nil_of_le (by omega)
    rw [d7]
    obtain ⟨s, hss, hsn⟩ := sn th ne
    have xn : X.n = k := c.n
    obtain ⟨s', hs', sk, _, _⟩ := c.ssAt (i := k) (by omega)
    rw [xn, hs'] at hss
    cases hss
    have el := c.esl
    obtain ⟨x, hx⟩ := get_some_of_lt (l := X.es) (i := k) (by omega)
    obtain ⟨xa, xb, xc, xd⟩ := c.esAt hx
    refine ⟨fun _ => ?_, fun D _ d2 => ?_⟩
    · unfold ThOk
      rw [show (accX X [] rd).th = .ends from th]
      refine ⟨⟨c.wk.k, c.wk.n⟩, s, x, by show X.ss[X.n]? = _; rw [xn]; exact hs', hsn, by rw [sk]; exact xn.symm, by rw [sk]; exact hx, ?_⟩
      rw [xd, if_neg (by omega)]
      exact Nat.zero_le _
    obtain ⟨s2, x2, a1, a2, eD⟩ := (d2 rfl).of_ends th
    have a1 : X.ss[X.n]? = some s2 := a1
    rw [xn, hs'] at a1
    cases a1
    have a2 : X.es[s.k]? = some x2 := a2
    rw [sk, hx] at a2
    cases a2
    have cc : Core rs (k + 1) (k + 1) D := by
      subst eD
      refine ⟨c.bk, c.dv, c.wr, ?_, ?_, ?_, fun j y hy => ?_, ?_, fun j y hy => ?_, c.un, Nat.le_refl _, by omega⟩
      · show X.n + 1 = _
        rw [xn]
      · show X.sq + 1 = _
        rw [show X.sq = (k : Int) from c.sq]
        omega
      · show ((X.es.map EX.dat).set s.k _).length = _
        rw [List.length_set]
        exact c.el
      · have hy : ((X.es.map EX.dat).set s.k { x.dat with sd := x.sd + 1 })[j]? = some y := hy
        rw [sk] at hy
        by_cases cj : j = k
        · subst cj
          rw [List.getElem?_set_self (by rw [List.length_map]; omega)] at hy
          cases hy
          refine ⟨xa, xb, xc, ?_⟩
          show x.sd + 1 = _
          rw [xd, if_neg (by omega), if_pos (by omega)]
        · rw [List.getElem?_set_ne (fun z => cj z.symm)] at hy
          obtain ⟨b1, b2, b3, b4⟩ := c.es j y hy
          refine ⟨b1, b2, b3, ?_⟩
          rw [b4]
          by_cases cl : j < k
          · rw [if_pos cl, if_pos (by omega)]
          · rw [if_neg cl, if_neg (by omega)]
      · show ((X.ss.map SX.dat).set X.n _).length = _
        rw [List.length_set]
        exact c.sl
      · have hy : ((X.ss.map SX.dat).set X.n { s.dat with ru := X.md + 1 })[j]? = some y := hy
        rw [xn] at hy
        by_cases cj : j = k
        · subst cj
          obtain ⟨b1, b2, _⟩ := c.ss j s.dat (by show (X.ss.map SX.dat)[j]? = _; rw [List.getElem?_map, hs']; rfl)
          rw [List.getElem?_set_self (by rw [List.length_map]; exact (List.getElem?_eq_some_iff.mp hs').1)] at hy
          cases hy
          refine ⟨b1, b2, fun _ => ?_⟩
          show X.md + 1 = _
          rw [md]
          omega
        · rw [List.getElem?_set_ne (fun z => cj z.symm)] at hy
          obtain ⟨b1, b2, b3⟩ := c.ss j y hy
          exact ⟨b1, b2, fun hj => b3 (by omega)⟩
    have eleft : D.left = [] := by
      subst eD
      rfl
    have emd : D.md = X.md + 1 := by
      subst eD
      rfl
    have ept : D.pt = 0 := by
      subst eD
      exact pt
    have efr : D.free = frees (k + 1) := by
      subst eD
      exact fr
    rw [ht]
    have hd : L.drop 6 ++ tailS rs m (k + 1) = L[6] :: tailS rs m (k + 1) := by
      rw [dc, d7]
      rfl
    refine ⟨.due (tailS rs m (k + 1)), ⟨_, hd, .inl ⟨tail_ne (by omega), rfl⟩⟩, ?_, emd⟩
    by_cases cm : k + 1 = m
    · subst cm
      rw [tail_end (by omega)]
      exact .pidle (f := 300) (n := 2 + 7 * (k + 1)) (p := 0) (by omega) cc (by rw [emd, md]; omega) (Nat.le_refl _) (by omega) (by omega) eleft ept
    · exact .idle (.inl (by omega)) cc efr (by rw [emd, md]; omega) eleft ept
  · have rne : L.drop (i + 1) ≠ [] := fun z => by
      have := congrArg List.length z
      rw [List.length_drop, List.length_nil] at this
      omega
    refine ⟨fun z => absurd z rne, fun D d1 _ => ?_⟩
    rw [d1 rne, ht]
    refine ⟨.due (L.drop (i + 1) ++ tailS rs m (k + 1)), ⟨_, by rw [dc]; rfl, .inl ⟨fun z => rne (List.append_eq_nil_iff.mp z).1, rfl⟩⟩, ?_, rfl⟩
    rw [← es]
    refine .send hk (by omega) (c.eq ⟨rfl, rfl, rfl, rfl, rfl, rfl, rfl, rfl⟩) fr ?_ th ?_ ?_ pt
    · show X.md + 1 = _
      rw [md]
      omega
    · rw [es]
      rfl
    · show (X.res ++ [rd]).length ≤ i + 1
      rw [List.length_append]
      exact Nat.succ_le_succ re
end
end Rb
namespace Rb
open PySem PySem.Spec PyProof.Rows L2
section
variable {rs : List RQ} {m : Nat} {A : AM} {X : DV}
theorem req_rd {c : Nat} (h : c = 4 ∨ c = 50 ∨ c = 51 ∨ c = 68) : ReqW (.tuple [.str "read", .int (c : Int)]) := ⟨"read", _, rfl, .rd h, by decide⟩
theorem acc_poll {f n p : Nat} (hm : 0 < m) (c : Core rs m m X.dat) (md : X.md = (n : Int)) (n0 : 2 + 7 * m ≤ n) (n1 : n ≤ 209) (fn : 210 ≤ f + n) (th : X.th = .intr) (le : X.left = [intrD]) (re : X.res = []) (pt : X.pt = ((p % 4 : Nat) : Int)) (ht : A.tix 0 = 0) : AccQ A X (FX rs m (.due (pollL f n p ++ backL m)) A X.md) := by
  refine accq_mk (q := intrD) (rest := []) le (req_rd (c := 51) (.inr (.inr (.inl rfl)))) (by rw [le]; decide) (by rw [re]; decide) fun rd hrd => ?_
  have e0 := hrd.1 rfl
  subst e0
  refine ⟨fun _ => ?_, fun D _ d2 => ?_⟩
  · unfold ThOk
    rw [show (accX X [] (.int 0)).th = .intr from th]
    exact ⟨[], by show X.res ++ [.int 0] = _; rw [re]; rfl⟩
  have eD := (d2 rfl).of_intr th
  have eD : D = if X.pt + 1 = 4 then { (accX X [] (.int 0)).dat with pt := X.pt + 1, left := [lookD], res := [], th := .comp } else { (accX X [] (.int 0)).dat with pt := X.pt + 1 } := eD
  obtain ⟨f, rfl⟩ : ∃ g, f = g + 1 := ⟨f - 1, by omega⟩
  have eu : pollL (f + 1) n p = intrD :: (if (p + 1) % 4 = 0 then lookD :: pollL f (n + 2) (p + 1) else pollL f (n + 1) (p + 1)) := if_pos n1
  rw [eu, ht]
  by_cases c4 : (p + 1) % 4 = 0
  · rw [if_pos (by rw [pt]; omega)] at eD
    rw [if_pos c4]
    subst eD
    refine ⟨.due (lookD :: (pollL f (n + 2) (p + 1) ++ backL m)), ⟨_, rfl, .inl ⟨fun z => (nomatch z), rfl⟩⟩, ?_, rfl⟩
    exact .look (n := n + 1) hm (c.eq ⟨rfl, rfl, rfl, rfl, rfl, rfl, rfl, rfl⟩) (by show X.md + 1 = _; rw [md]; omega) (by omega) (by omega) (by omega) c4 rfl rfl rfl
  · rw [if_neg (by rw [pt]; omega)] at eD
    rw [if_neg c4]
    subst eD
    refine ⟨.due (pollL f (n + 1) (p + 1) ++ backL m), ⟨_, rfl, .inl ⟨backL_ne _ _, rfl⟩⟩, ?_, rfl⟩
    exact .pidle (n := n + 1) hm (c.eq ⟨rfl, rfl, rfl, rfl, rfl, rfl, rfl, rfl⟩) (by show X.md + 1 = _; rw [md]; omega) (by omega) (by omega) (by omega) rfl (by show X.pt + 1 = _; rw [pt]; omega)
theorem acc_look {f n p : Nat} (hm : 0 < m) (c : Core rs m m X.dat) (md : X.md = (n : Int)) (n0 : 2 + 7 * m ≤ n) (n1 : n ≤ 210) (fn : 210 ≤ f + (n + 1)) (p4 : p % 4 = 0) (th : X.th = .comp) (le : X.left = [lookD]) (re : X.res = []) (ht : A.tix 0 = 0) : AccQ A X (FX rs m (.due (lookD :: (pollL f (n + 1) p ++ backL m))) A X.md) := by
  refine accq_mk (q := lookD) (rest := []) le (req_rd (c := 4) (.inl rfl)) (by rw [le]; decide) (by rw [re]; decide) fun rd hrd => ?_
  have e0 := hrd.2.2.1 rfl
  subst e0
  refine ⟨fun _ => ?_, fun D _ d2 => ?_⟩
  · unfold ThOk
    rw [show (accX X [] .none).th = .comp from th]
    exact ⟨X.res, rfl⟩
  have eD := (d2 rfl).of_comp th
  rw [ht]
  subst eD
  refine ⟨.due (pollL f (n + 1) p ++ backL m), ⟨_, rfl, .inl ⟨backL_ne _ _, rfl⟩⟩, ?_, rfl⟩
  exact .pidle hm (c.eq ⟨rfl, rfl, rfl, rfl, rfl, rfl, rfl, rfl⟩) (by show X.md + 1 = _; rw [md]; omega) (by omega) (by omega) fn rfl (by rw [p4]; rfl)
theorem back_at {m i : Nat} (hi : i < (backL m).length) : (i < 2 + m → (backL m)[i] = nilR i) ∧ (2 + m ≤ i → (backL m)[i] = cmdR (i - (2 + m))) := by
  have hl := backL_len m
  unfold backL backD at hi ⊢
  constructor
  · intro h
    rw [List.getElem_append_left (by rw [List.length_map, List.length_range]; exact h), List.getElem_map, List.getElem_range]
  · intro h
    rw [List.getElem_append_right (by rw [List.length_map, List.length_range]; exact h), List.getElem_map, List.getElem_range, List.length_map, List.length_range]
theorem acc_back (hs : SentOk rs m) {i n : Nat} (hm : 0 < m) (hi : i < 2 * (2 + m)) (c : Core rs m m X.dat) (md : X.md = (n : Int) + (i : Int)) (n0 : 210 ≤ n) (bh : X.bh.isSome = true) (th : X.th = .tick) (le : X.left = (backL m).drop i) (re : X.res.length ≤ i) (ht : A.tix 0 = ((i - (2 + m) : Nat) : Int)) : AccQ A X (FX rs m (.due ((backL m).drop i)) A X.md) := by
  have m3 := hs.m3
  have hl := backL_len m
  have hi' : i < (backL m).length := by omega
  obtain ⟨b1, b2⟩ := back_at hi'
  have dc := drop_cons' hi'
  have lle : X.left.length ≤ 4000 := by
    rw [le, List.length_drop]
    omega
  rw [dc] at le
  have mid : ∀ (rd : PyData) (D : DD) (t : Int), i + 1 < 2 * (2 + m) → t = ((i + 1 - (2 + m) : Nat) : Int) → (((backL m).drop (i + 1)) ≠ [] → D = (accX X ((backL m).drop (i + 1)) rd).dat) → ∃ st', Nxt m (A.log.length + 1) (.due ((backL m).drop i)) (backL m)[i] rd st' D ∧ PhS rs m st' t D ∧ D.md = X.md + 1 := fun rd D t h1 h2 h3 => by
    have rne : (backL m).drop (i + 1) ≠ [] := fun z => by
      have := congrArg List.length z
      rw [List.length_drop, List.length_nil] at this
      omega
    rw [h3 rne, h2]
    refine ⟨.due ((backL m).drop (i + 1)), ⟨_, dc, .inl ⟨rne, rfl⟩⟩, ?_, rfl⟩
    refine .back hm h1 (c.eq ⟨rfl, rfl, rfl, rfl, rfl, rfl, rfl, rfl⟩) (n := n) (by show X.md + 1 = _; rw [md]; omega) n0 bh th rfl ?_
    show (X.res ++ [rd]).length ≤ i + 1
    rw [List.length_append]
    exact Nat.succ_le_succ re
  by_cases c1 : i < 2 + m
  · rw [b1 c1] at le mid
    have rne : (backL m).drop (i + 1) ≠ [] := fun z => by
      have := congrArg List.length z
      rw [List.length_drop, List.length_nil] at this
      omega
    refine accq_mk le ⟨"write", _, rfl, .tw (p := i) (by omega) (.inl rfl), by decide⟩ lle (by omega) fun rd _ => ⟨fun z => absurd z rne, fun D d1 _ => ?_⟩
    exact mid rd D _ (by omega) (by rw [ht]; omega) d1
  · rw [b2 (by omega)] at le mid
    refine accq_cm le (by omega) lle (by omega) ?_
    by_cases c2 : i + 1 < 2 * (2 + m)
    · have rne : (backL m).drop (i + 1) ≠ [] := fun z => by
        have := congrArg List.length z
        rw [List.length_drop, List.length_nil] at this
        omega
      exact ⟨fun z => absurd z rne, fun D d1 _ => mid _ D _ c2 (by rw [ht]; omega) d1⟩
    · have r0 : (backL m).drop (i + 1) = [] := List.drop_eq_nil_of_le (by omega)
      rw [r0] at dc ⊢
      refine ⟨fun _ => ?_, fun D _ d2 => ?_⟩
      · unfold ThOk
        rw [show (accX X [] (.int (A.tix 0 + 1))).th = .tick from th]
        exact ⟨X.res, _, rfl⟩
      have eD := (d2 rfl).of_tick th (ds := X.res) (t := A.tix 0 + 1) rfl
      have et : A.tix 0 + 1 = ((2 + m : Nat) : Int) := by
        rw [ht]
        omega
      rw [et] at eD ⊢
      subst eD
      refine ⟨.wait, ⟨[], by rw [dc, b2 (by omega)], .inr (.inl ⟨rfl, hm, rfl⟩)⟩, ?_, rfl⟩
      exact .wait hm (c.eq ⟨rfl, rfl, rfl, rfl, rfl, rfl, rfl, rfl⟩) (by show 210 ≤ X.md + 1; rw [md]; omega) bh rfl rfl rfl rfl
theorem acc_wait (hm : 0 < m) (c : Core rs m m X.dat) (md : 210 ≤ X.md) (bh : X.bh.isSome = true) (th : X.th = .ackn) (le : X.left = [ackD]) (re : X.res = []) (tk : X.tk = ((2 + m : Nat) : Int)) (ht : A.tix 0 = ((2 + m : Nat) : Int)) : AccQ A X (FX rs m .wait A X.md) := by
  refine accq_mk (q := ackD) (rest := []) le (req_rd (c := 68) (.inr (.inr (.inr rfl)))) (by rw [le]; decide) (by rw [re]; decide) fun rd hrd => ?_
  obtain ⟨r, rfl, hr⟩ := hrd.2.2.2 rfl
  refine ⟨fun _ => ?_, fun D _ d2 => ?_⟩
  · unfold ThOk
    rw [show (accX X [] (.int r)).th = .ackn from th]
    exact ⟨bh, [], r, by show X.res ++ [.int r] = _; rw [re]; rfl⟩
  have eD := (d2 rfl).of_ackn th (ds := []) (r := r) (by show X.res ++ [.int r] = _; rw [re]; rfl)
  have eD : D = if r ≥ X.tk then { (accX X [] (.int r)).dat with free := [2, 3, 4, 5], rg := 0, left := [rstD, rdyD], res := [], th := .rdy } else { (accX X [] (.int r)).dat with left := [ackD], res := [], th := .ackn } := eD
  rw [ht] at hr ⊢
  by_cases cr : r = ((2 + m : Nat) : Int)
  · rw [if_pos (by rw [tk, cr]; exact Int.le_refl _)] at eD
    subst eD
    exact ⟨.rst, ⟨rfl, r, rfl, .inl ⟨cr, rfl, rfl⟩⟩, .rst hm (c.eq ⟨rfl, rfl, rfl, rfl, rfl, rfl, rfl, rfl⟩) rfl rfl rfl rfl, rfl⟩
  · rw [if_neg (by rw [tk]; omega)] at eD
    subst eD
    exact ⟨.wait, ⟨rfl, r, rfl, .inr ⟨cr, rfl⟩⟩, .wait hm (c.eq ⟨rfl, rfl, rfl, rfl, rfl, rfl, rfl, rfl⟩) (by show 210 ≤ X.md + 1; omega) bh rfl rfl rfl tk, rfl⟩
theorem acc_rst (hm : 0 < m) (c : Core rs m m X.dat) (th : X.th = .rdy) (le : X.left = [rstD, rdyD]) (re : X.res = []) (rg : X.rg = 0) : AccQ A X (FX rs m .rst A X.md) := by
  refine accq_mk (q := rstD) (rest := [rdyD]) le ⟨"write", _, rfl, .rg (c := 49) (.inr rfl), by decide⟩ (by rw [le]; decide) (by rw [re]; decide) fun rd hrd => ⟨fun z => (nomatch z), fun D d1 _ => ?_⟩
  rw [d1 (fun z => (nomatch z))]
  refine ⟨.rdy 0, ⟨rfl, rfl⟩, .rdy hm (by decide) (c.eq ⟨rfl, rfl, rfl, rfl, rfl, rfl, rfl, rfl⟩) th rfl ?_ rg, rfl⟩
  show (X.res ++ [rd]).length ≤ 1
  rw [re]
  exact Nat.le_refl _
theorem filter_fi {es : List ED} {m : Nat} (hl : m ≤ es.length) (h : ∀ i x, es[i]? = some x → x.fi.isSome = decide (i < m)) : (es.filter fun x => x.fi.isSome).length = m := by
  have e : es = es.take m ++ es.drop m := (List.take_append_drop m es).symm
  rw [e, List.filter_append, List.length_append, List.filter_eq_self.mpr (fun x hx => ?_), List.filter_eq_nil_iff.mpr (fun x hx => ?_), List.length_take, List.length_nil]
  · omega
  · obtain ⟨i, hi⟩ := List.getElem?_of_mem hx
    rw [List.getElem?_drop] at hi
    rw [h _ x hi]
    simp
  · obtain ⟨i, hi⟩ := List.getElem?_of_mem hx
    have il : i < m := by
      have := (List.getElem?_eq_some_iff.mp hi).1
      rw [List.length_take] at this
      omega
    rw [List.getElem?_take_of_lt il] at hi
    rw [h _ x hi]
    exact decide_eq_true il
theorem acc_rdy (hs : SentOk rs m) (hl : rs.length ≤ 60) {j : Nat} (hm : 0 < m) (hj : j < 100) (c : Core rs m m X.dat) (th : X.th = .rdy) (le : X.left = [rdyD]) (re : X.res.length ≤ 1) (rg : X.rg = (j : Int)) : AccQ A X (FX rs m (.rdy j) A X.md) := by
  refine accq_mk (q := rdyD) (rest := []) le (req_rd (c := 50) (.inr (.inl rfl))) (by rw [le]; decide) (by omega) fun rd hrd => ?_
  have e0 := hrd.2.1 rfl
  subst e0
  have el := c.esl
  refine ⟨fun _ => ?_, fun D _ d2 => ?_⟩
  · unfold ThOk
    rw [show (accX X [] (.int 0)).th = .rdy from th]
    refine ⟨by show X.es.length ≤ 60; omega, fun x hx => ?_, X.res, 0, by decide, rfl⟩
    have hx : x ∈ X.es := hx
    obtain ⟨i, hi⟩ := List.getElem?_of_mem hx
    exact (c.esAt hi).2.1
  have eD := (d2 rfl).of_rdy th
  have eD : D = if X.rg + 1 < 100 then { (accX X [] (.int 0)).dat with rg := X.rg + 1, left := [rdyD], res := [], th := .rdy } else { (accX X [] (.int 0)).dat with rg := X.rg + 1, bk := true, n := 0, es := X.dat.es.map fun x => { x with an := some (A.log.length + 1) } } := eD
  by_cases c9 : j + 1 < 100
  · rw [if_pos (by rw [rg]; omega)] at eD
    subst eD
    exact ⟨.rdy (j + 1), ⟨rfl, hj, .inl ⟨c9, rfl⟩⟩, .rdy hm c9 (c.eq ⟨rfl, rfl, rfl, rfl, rfl, rfl, rfl, rfl⟩) rfl rfl (Nat.zero_le _) (by show X.rg + 1 = _; rw [rg]; omega), rfl⟩
  · rw [if_neg (by rw [rg]; omega)] at eD
    subst eD
    refine ⟨.brk, ⟨rfl, hj, .inr ⟨by omega, rfl, fun x hx => ?_, ?_⟩⟩, .brk hm rfl rfl c.dv (fun x hx => ?_) ?_ rfl, rfl⟩
    · obtain ⟨y, _, rfl⟩ := List.mem_map.mp hx
      rfl
    · show ((X.dat.es.map fun x : ED => { x with an := some ((A.log.length : Int) + 1) }).filter fun x => x.fi.isSome).length = m
      refine filter_fi ?_ fun i x hx => ?_
      · rw [List.length_map, c.el]
        exact hs.ml
      · rw [List.getElem?_map] at hx
        cases e : X.dat.es[i]? with
        | none =>
          rw [e] at hx
          cases hx
        | some y =>
          rw [e] at hx
          cases hx
          exact (c.es i y e).2.2.1
    · obtain ⟨y, _, rfl⟩ := List.mem_map.mp hx
      rfl
    · show (X.dat.es.map _).length = _
      rw [List.length_map]
      exact c.el
end
end Rb
namespace Rb
open PySem PySem.Spec PyProof.Rows L2
/-! ### what a driver that rests chooses -/
theorem from_cons {a n : Nat} (h : 0 < n) : (List.range n).map (fun i => ((a + i : Nat) : Int)) = (a : Int) :: (List.range (n - 1)).map fun i => ((a + 1 + i : Nat) : Int) := by
  obtain ⟨n, rfl⟩ : ∃ k, n = k + 1 := ⟨n - 1, by omega⟩
  rw [List.range_succ_eq_map, List.map_cons, List.map_map]
  refine congrArg (_ :: ·) (List.map_congr_left fun i _ => ?_)
  show ((a + (i + 1) : Nat) : Int) = _
  omega
section
variable {rs : List RQ} {m : Nat} {A : AM} {X : DV} {f k : Nat}
theorem must_no (c : Core rs f k X.dat) (h : X.md ≤ 209) : mustB X = false := by
  unfold mustB
  rw [show X.wr = false from c.wr, Bool.false_or, List.any_eq_false]
  intro s hs
  obtain ⟨i, hi⟩ := List.getElem?_of_mem hs
  have il : i < k := by
    have := (List.getElem?_eq_some_iff.mp hi).1
    rw [c.wsl] at this
    exact this
  obtain ⟨s', h1, _, h3, _⟩ := c.wsAt il
  rw [hi] at h1
  cases h1
  rw [decide_eq_true_eq, h3]
  omega
theorem must_yes (c : Core rs f k X.dat) (hk : 0 < k) (h : 210 ≤ X.md) : mustB X = true := by
  unfold mustB
  obtain ⟨s, h1, _, h3, _⟩ := c.wsAt hk
  rw [Bool.or_eq_true, List.any_eq_true]
  refine .inr ⟨s, List.mem_of_getElem? h1, ?_⟩
  rw [decide_eq_true_eq, h3]
  omega
theorem ws_rq (c : Core rs f k X.dat) : X.ws.map (·.rq) = rs.take k := by
  refine List.ext_getElem? fun i => ?_
  rw [List.getElem?_map]
  by_cases h : i < k
  · obtain ⟨s, h1, _, _, h4⟩ := c.wsAt h
    rw [h1, List.getElem?_take_of_lt h, h4]
    rfl
  · rw [List.getElem?_eq_none (by rw [c.wsl]; omega), List.getElem?_eq_none (by rw [List.length_take]; omega)]
    rfl
theorem un_cons (c : Core rs f k X.dat) (h : f < rs.length) : X.unsent = (f : Int) :: (List.range (rs.length - (f + 1))).map fun i => ((f + 1 + i : Nat) : Int) := by
  have := c.un
  have e : X.unsent = (List.range (rs.length - f)).map fun i => ((f + i : Nat) : Int) := this
  rw [e, from_cons (by omega), show rs.length - f - 1 = rs.length - (f + 1) by omega]
theorem un_nil (c : Core rs f k X.dat) (h : rs.length ≤ f) : X.unsent = [] := by
  have := c.un
  have e : X.unsent = (List.range (rs.length - f)).map fun i => ((f + i : Nat) : Int) := this
  rw [e, show rs.length - f = 0 by omega]
  rfl
theorem may_is (c : Core rs k k X.dat) (h : k < rs.length) (h3 : k < 3) : mayB X = !Blk rs k := by
  obtain ⟨x, hx⟩ := get_some_of_lt (l := X.es) (i := k) (by rw [c.esl]; exact h)
  obtain ⟨xa, _⟩ := c.esAt hx
  unfold mayB
  rw [un_cons c h]
  show (if X.ws.length ≥ 3 then false else match X.es[(k : Int).toNat]? with | none => false | some x => if x.rq.wr = true then !(X.ws.filter fun s => s.rq.wr).any fun s => decide (s.rq.blk = x.rq.blk) else true) = _
  rw [c.wsl, if_neg (by omega), Int.toNat_natCast, hx]
  show (if x.rq.wr = true then !(X.ws.filter fun s => s.rq.wr).any fun s => decide (s.rq.blk = x.rq.blk) else true) = _
  unfold Blk
  rw [xa]
  show _ = !(x.rq.wr && (((rs.take k).filter fun q => q.wr).any fun q => decide (q.blk = x.rq.blk)))
  rw [← ws_rq c, List.filter_map, List.any_map]
  cases hw : x.rq.wr with
  | false => rfl
  | true =>
    rw [if_pos rfl, Bool.true_and]
    rfl
theorem may_no (hs : SentOk rs m) (c : Core rs m m X.dat) : mayB X = false := by
  have ml := hs.ml
  by_cases h : m < rs.length
  · by_cases h3 : m < 3
    · rw [may_is c h h3, hs.yes h3 h]
      rfl
    · unfold mayB
      rw [un_cons c h]
      show (if X.ws.length ≥ 3 then false else _) = _
      rw [c.wsl, if_pos (by omega)]
  · unfold mayB
    rw [un_nil c (by omega)]
theorem un_valid (c : Core rs f k X.dat) : ∀ i l, X.unsent = i :: l → ∃ (j : Nat) (x : EX), i = (j : Int) ∧ X.es[j]? = some x := fun i l e => by
  by_cases h : f < rs.length
  · rw [un_cons c h] at e
    injection e with e1 e2
    obtain ⟨x, hx⟩ := get_some_of_lt (l := X.es) (i := f) (by rw [c.esl]; exact h)
    exact ⟨f, x, e1.symm, hx⟩
  · rw [un_nil c (by omega)] at e
    cases e
end
def AltP (A : AM) (X : DV) (F : AM → DD → Prop) (F0 : DD → Prop) : Prop := (X.left ≠ [] ∧ AccQ A X F) ∨ (X.left = [] ∧ ∃ S, ChP X (A.log.length : Int) S ∧ ∀ X' : DV, S X'.dat → SnOk X' → (X'.left = [] ∧ F0 X'.dat) ∨ (X'.left ≠ [] ∧ X'.dv = 0 ∧ AccQ A X' F))
def F0X (m : Nat) (st : St) (X : DV) : DD → Prop := fun D => D = X.dat ∧ (st = .brk ∨ (st = .due [] ∧ m = 0))
theorem alt_ph {rs : List RQ} {m : Nat} {A : AM} {X : DV} {st : St} {t : Int} {D : DD} (ok : ∀ r ∈ rs, r.Ok) (hs : SentOk rs m) (hl : rs.length ≤ 60) (hp : PhS rs m st t D) (hD : D = X.dat) (ht : A.tix 0 = t) (sn : SnOk X) :
    X.dv = 0 ∧ X.Wk ∧ AltP A X (FX rs m st A X.md) (F0X m st X) := by
  have m3 := hs.m3
  have ml := hs.ml
  have ne : ∀ {q : PyData} {r : List PyData}, X.left = q :: r → X.left ≠ [] := fun e z => by rw [e] at z; cases z
  have nd : ∀ {L : List PyData} {i : Nat}, X.left = L.drop i → i < L.length → X.left ≠ [] := fun e h z => by
    rw [e] at z
    have := congrArg List.length z
    rw [List.length_drop, List.length_nil] at this
    omega
  cases hp with
  | lend hi c fr md th le re pt =>
    subst hD
    exact ⟨c.dv, c.wk, .inl ⟨nd le (by show _ < 2; exact hi), acc_lend hi c fr md th le re pt ht⟩⟩
  | @send _ k i hk hi c fr md th le re pt =>
    subst hD
    refine ⟨c.dv, c.wk, .inl ⟨nd le ?_, acc_send ok hs sn hk hi c fr md th le re pt ht⟩⟩
    have e := List.getElem?_eq_getElem (show k < rs.length by omega)
    rw [show sendO rs k = sendD k (rs[k]'(by omega)) by unfold sendO; rw [e], sendD_len (ok _ (List.mem_of_getElem? e))]
    exact hi
  | poll hm c md n0 n1 fn th le re pt =>
    subst hD
    exact ⟨c.dv, c.wk, .inl ⟨ne le, acc_poll hm c md n0 n1 fn th le re pt ht⟩⟩
  | look hm c md n0 n1 fn p4 th le re =>
    subst hD
    exact ⟨c.dv, c.wk, .inl ⟨ne le, acc_look hm c md n0 n1 fn p4 th le re ht⟩⟩
  | back hm hi c md n0 bh th le re =>
    subst hD
    exact ⟨c.dv, c.wk, .inl ⟨nd le (by rw [backL_len]; exact hi), acc_back hs hm hi c md n0 bh th le re ht⟩⟩
  | wait hm c md bh th le re tk =>
    subst hD
    exact ⟨c.dv, c.wk, .inl ⟨ne le, acc_wait hm c md bh th le re tk ht⟩⟩
  | rst hm c th le re rg =>
    subst hD
    exact ⟨c.dv, c.wk, .inl ⟨ne le, acc_rst hm c th le re rg⟩⟩
  | rdy hm hj c th le re rg =>
    subst hD
    exact ⟨c.dv, c.wk, .inl ⟨ne le, acc_rdy hs hl hm hj c th le re rg⟩⟩
  | brk hm bk le dv an el n =>
    subst hD
    have w0 : X.ws = [] := by
      have n : X.n = 0 := n
      unfold DV.ws
      rw [n]
      rfl
    refine ⟨dv, ⟨by rw [w0]; rfl, by rw [w0]; exact Nat.zero_le _⟩, .inr ⟨le, _, .broken bk, fun X' e _ => .inl ⟨?_, e, .inl rfl⟩⟩⟩
    exact (congrArg DD.left e).trans le
  | @pidle _ f n p hm c md n0 n1 fn le pt =>
    subst hD
    refine ⟨c.dv, c.wk, .inr ⟨le, ?_⟩⟩
    have md : X.md = (n : Int) := md
    by_cases cn : n ≤ 209
    · refine ⟨_, .poll c.bk (must_no c (by omega)) (un_valid c) (may_no hs c) (fun z => ?_), fun X' e sn' => .inr ?_⟩
      · have := c.wsl
        rw [z] at this
        have : 0 = m := this
        omega
      · have c' : Core rs m m X'.dat := c.eq (by rw [e]; exact ⟨rfl, rfl, rfl, rfl, rfl, rfl, rfl, rfl⟩)
        have el : X'.left = [intrD] := congrArg DD.left e
        have emd : X'.md = X.md := congrArg DD.md e
        refine ⟨(fun z => by rw [el] at z; cases z), c'.dv, ?_⟩
        rw [← emd]
        exact acc_poll hm c' (emd.trans md) n0 cn fn (congrArg DD.th e) el (congrArg DD.res e) ((congrArg DD.pt e).trans pt) ht
    · refine ⟨_, .reset c.bk (must_yes c hm (by omega)), fun X' e sn' => .inr ?_⟩
      have c' : Core rs m m X'.dat := by
        rw [e]
        exact c.eq ⟨rfl, rfl, c.wr.symm, rfl, rfl, rfl, rfl, rfl⟩
      have er : resetPs X = List.range (2 + m) := by
        have := c.wk.k
        rw [c.wsl] at this
        have e2 : (X.ws.map fun x => x.k + 2) = (List.range m).map (· + 2) := by
          rw [← this, List.map_map]
          rfl
        unfold resetPs
        rw [e2, show 2 + m = m + 1 + 1 by omega, List.range_succ_eq_map, List.range_succ_eq_map, List.map_cons, List.map_map]
        rfl
      have el : X'.left = backL m := by
        have := congrArg DD.left e
        have e3 : X'.left = backD (resetPs X) := this
        rw [e3, er]
        rfl
      have emd : X'.md = X.md := congrArg DD.md e
      have ep0 : pollL f n p = [] := by
        cases f with
        | zero => rfl
        | succ f => exact if_neg cn
      refine ⟨fun z => backL_ne m [] (by rw [← el, z]; rfl), c'.dv, ?_⟩
      rw [← emd, ep0]
      exact acc_back (i := 0) (n := n) hs hm (by omega) c' (by rw [emd, md]; rfl) (by omega) (congrArg DD.bh e) (congrArg DD.th e) el (by rw [show X'.res = [] from congrArg DD.res e]; exact Nat.le_refl _) (by rw [ht]; omega)
  | @idle _ k hk c fr md le pt =>
    subst hD
    refine ⟨c.dv, c.wk, .inr ⟨le, ?_⟩⟩
    have md : X.md = 2 + 7 * (k : Int) := md
    have hk3 : k ≤ 3 := c.f3
    by_cases c0 : k < m
    · have hk2 : k < rs.length := by omega
      obtain ⟨x, hx⟩ := get_some_of_lt (l := X.es) (i := k) (by rw [c.esl]; exact hk2)
      obtain ⟨xa, xb, xc, xd⟩ := c.esAt hx
      have xn : X.n = k := c.n
      have fcons : frees k = ((k + 2 : Nat) : Int) :: frees (k + 1) := by
        unfold frees
        rw [from_cons (by omega), show 4 - k - 1 = 4 - (k + 1) by omega]
      have xf : x.fi = none := by
        rw [decide_eq_false (Nat.lt_irrefl k)] at xc
        cases e : x.fi with
        | none => rfl
        | some _ =>
          rw [e] at xc
          cases xc
      have sl : X.ss.length = k := by
        have : (X.ss.map SX.dat).length = k := c.sl
        rw [List.length_map] at this
        exact this
      have un := un_cons c hk2
      have fr : X.free = frees k := fr
      refine ⟨_, .send c.bk (must_no c (by omega)) (by rw [may_is c hk2 (by omega), hs.no k c0]; rfl) (e := x) (ut := (List.range (rs.length - (k + 1))).map fun i => ((k + 1 + i : Nat) : Int)) (ft := frees (k + 1)) ⟨by rw [xn]; exact sl, by rw [xn]; exact hk3, by rw [xn]; exact c.sq, by rw [xn]; exact un, by rw [xn, fr, fcons], ?_, ?_, by rw [xn]; exact hx, xf, ok _ (List.mem_of_getElem? xa)⟩, fun X' e sn' => .inr ?_⟩
      · rw [un, List.length_cons, List.length_map, List.length_range]
        omega
      · rw [fr]
        unfold frees
        rw [List.length_map, List.length_range]
        omega
      have c' : Core rs (k + 1) k X'.dat := by
        rw [e]
        refine ⟨c.bk, c.dv, c.wr, c.n, c.sq, ?_, fun j y hy => ?_, ?_, fun j y hy => ?_, rfl, by omega, by omega⟩
        · show ((X.es.map EX.dat).set X.n _).length = _
          rw [List.length_set]
          exact c.el
        · have hy : ((X.es.map EX.dat).set X.n { x.dat with fi := some ((A.log.length : Int) + 1) })[j]? = some y := hy
          rw [xn] at hy
          by_cases cj : j = k
          · subst cj
            rw [List.getElem?_set_self (by rw [List.length_map]; exact (List.getElem?_eq_some_iff.mp hx).1)] at hy
            cases hy
            exact ⟨xa, xb, (decide_eq_true (Nat.lt_succ_self j)).symm, xd⟩
          · rw [List.getElem?_set_ne (fun z => cj z.symm)] at hy
            obtain ⟨b1, b2, b3, b4⟩ := c.es j y hy
            refine ⟨b1, b2, ?_, b4⟩
            rw [b3]
            by_cases cl : j < k
            · rw [decide_eq_true cl, decide_eq_true (by omega)]
            · rw [decide_eq_false cl, decide_eq_false (by omega)]
        · show ((X.ss.map SX.dat) ++ [_]).length = _
          rw [List.length_append, List.length_map, sl]
          rfl
        · have hy : ((X.ss.map SX.dat) ++ [⟨X.n, x.rq, 0⟩])[j]? = some y := hy
          by_cases cl : j < k
          · rw [List.getElem?_append_left (by rw [List.length_map, sl]; exact cl)] at hy
            exact c.ss j y hy
          · rw [List.getElem?_append_right (by rw [List.length_map, sl]; omega), List.length_map, sl] at hy
            have j0 : j - k = 0 := by
              have := (List.getElem?_eq_some_iff.mp hy).1
              simp at this
              omega
            rw [j0] at hy
            cases hy
            have ej : j = k := by omega
            subst ej
            exact ⟨xn, xa, fun z => absurd z (Nat.lt_irrefl _)⟩
      have el : X'.left = sendO rs k := by
        have := congrArg DD.left e
        have e3 : X'.left = fillD (X.n + 2) x.rq.cs ++ handD X.n x.rq := this
        rw [e3, xn]
        unfold sendO
        rw [xa]
        rfl
      have emd : X'.md = X.md := congrArg DD.md e
      refine ⟨fun z => ?_, c'.dv, ?_⟩
      · have e2 := List.getElem?_eq_getElem hk2
        have l7 := sendD_len (k := k) (ok _ (List.mem_of_getElem? e2))
        rw [el] at z
        unfold sendO at z
        rw [e2] at z
        have z : sendD k rs[k] = [] := z
        rw [z] at l7
        cases l7
      · rw [← emd, tail_step c0]
        exact acc_send (i := 0) ok hs sn' c0 (by decide) c' (congrArg DD.free e) (by rw [emd, md]; omega) (congrArg DD.th e) el (by rw [show X'.res = [] from congrArg DD.res e]; exact Nat.le_refl _) ((congrArg DD.pt e).trans pt) ht
    · have k0 : k = 0 := by omega
      have m0 : m = 0 := by omega
      subst k0 m0
      refine ⟨_, .rest c.bk (must_no c (by omega)) (un_valid c) (may_no hs c) ?_, fun X' e sn' => .inl ⟨?_, e, .inr ⟨rfl, rfl⟩⟩⟩
      · have := c.wsl
        exact List.length_eq_zero_iff.mp this
      · exact (congrArg DD.left e).trans le
end Rb
namespace Rb
open PySem PySem.Spec PyProof.Rows L2
/-! ### all that the law holds -/
theorem noLs_drop {l : List PyData} (h : noLs l = true) (n : Nat) : noLs (l.drop n) = true := by
  have e : l = l.take n ++ l.drop n := (List.take_append_drop n l).symm
  rw [e, noLs_app] at h
  exact (and2 h).2
theorem pollL_nl : ∀ f n p, noLs (pollL f n p) = true := by
  intro f
  induction f with
  | zero =>
    intro n p
    rfl
  | succ f ih =>
    intro n p
    unfold pollL
    split
    · split
      · show (true && (true && noLs (pollL f (n + 2) (p + 1)))) = true
        rw [ih]
        rfl
      · show (true && noLs (pollL f (n + 1) (p + 1))) = true
        rw [ih]
        rfl
    · rfl
theorem due_nl {rs : List RQ} {m : Nat} (h : m ≤ rs.length) : noLs (dueD rs m) = true := by
  unfold dueD
  split
  · rfl
  · exact noLs_and (noLs_and (noLs_and rfl (dueS_nl h)) (pollL_nl _ _ _)) (backD_nl _)
structure Pl where
  t : Addr
  l : Addr
  o : Addr
  wd : Addr
  dl : Addr
  vl : Addr
  ll : Addr
  d1 : Addr
  du : Addr
  xo : Addr
structure LW (K : PySem.W.Frag) (H : Hp) (P : Pl) (rs : List RQ) (m : Nat) (L : ML) (M : MS) (A : AM) (N : Nat) (X : DV) : Prop where
  ab : Abs K H L M A N
  g : MI A
  dr : DrvAt K H L.m X
  xo : X.o = P.xo
  sn : SnOk X
  tp : Tp H P.t P.l
  wo : H P.o = some (.ins (CW K) P.wd (wFld L.m P.dl P.vl P.ll))
  wl : H P.dl = some (.lst [.ref P.xo, .ref P.d1])
  du : ∃ ys, H P.du = some (.lst ys) ∧ DpAll K H ys (dueD rs m)
  ap : ∀ b ∈ X.all, b ∉ L.all
  nL : P.t ∉ L.all ∧ P.l ∉ L.all ∧ P.o ∉ L.all ∧ P.dl ∉ L.all ∧ P.du ∉ L.all
  nX : P.t ∉ X.all ∧ P.l ∉ X.all ∧ P.o ∉ X.all ∧ P.dl ∉ X.all ∧ P.du ∉ X.all
  nt : P.t ≠ P.dl ∧ P.t ≠ P.du
  dn : noLs (dueD rs m) = true
section
variable {K : PySem.W.Frag} {H H' : Hp} {P : Pl} {rs : List RQ} {m : Nat} {L : ML} {M M' : MS} {A A' : AM} {N N' : Nat} {X X' : DV}
theorem LW.same (h : LW K H P rs m L M A N X) (s : Same H H') : LW K H' P rs m L M A N X := { h with
  ab := h.ab.same s, dr := h.dr.same s, tp := h.tp.same s, wo := s _ _ h.wo, wl := s _ _ h.wl, du := by
    obtain ⟨ys, e, d⟩ := h.du
    exact ⟨ys, s _ _ e, d.same s⟩ }
theorem LW.mono (h : LW K H P rs m L M A N X) (n : N ≤ N') : LW K H P rs m L M A N' X := { h with ab := h.ab.mono n }
theorem LW.ks (h : LW K H P rs m L M A N X) {S : List Addr} (ks : KS S H H') (nt : NoT S H) (ab : Abs K H' L M' A' N') (g : MI A') (dr : DrvAt K H' L.m X') (xo : X'.o = P.xo) (sn : SnOk X') (tp : Tp H' P.t P.l)
    (n1 : P.o ∉ S) (n2 : P.dl ∉ S) (n3 : P.du ∉ S) (ap : ∀ b ∈ X'.all, b ∉ L.all) (nX : P.t ∉ X'.all ∧ P.l ∉ X'.all ∧ P.o ∉ X'.all ∧ P.dl ∉ X'.all ∧ P.du ∉ X'.all) : LW K H' P rs m L M' A' N' X' := by
  obtain ⟨ys, e, d⟩ := h.du
  exact ⟨ab, g, dr, xo, sn, tp, ks _ _ h.wo n1, ks _ _ h.wl n2, ⟨ys, ks _ _ e n3, Rb.DpAll.ts (ks.ts nt) _ _ h.dn d⟩, ap, h.nL, nX, h.nt, h.dn⟩
theorem LW.next (h : LW K H P rs m L M A N X) (kp : Kp P.t H H') (tp : Tp H' P.t P.l) : LW K H' P rs m L M A N X := by
  have nt := h.tp.noT
  have not : P.o ∉ [P.t] := fun z => by
    obtain ⟨xs, e⟩ := h.tp.lst
    have := h.wo
    rw [List.mem_singleton.mp z, e] at this
    cases this
  exact h.ks kp.ks nt (h.ab.ks kp.ks nt fun b hb => by rw [List.mem_singleton.mp hb]; exact h.nL.1) h.g (h.dr.ks kp.ks nt fun b hb z => h.nX.1 (List.mem_singleton.mp z ▸ hb)) h.xo h.sn tp not (fun z => h.nt.1 (List.mem_singleton.mp z).symm) (fun z => h.nt.2 (List.mem_singleton.mp z).symm) h.ap h.nX
theorem LW.grd (h : LW K H P rs m L M A N X) (ab : Abs K H' L M' A' N') (g : MI A') (ks : KS L.all H H') : LW K H' P rs m L M' A' N' X := by
  have nt : NoT L.all H := h.ab.mem.noT
  exact h.ks ks nt ab g (h.dr.ks ks nt h.ap) h.xo h.sn (h.tp.ks ks h.nL.1 h.nL.2.1) h.nL.2.2.1 h.nL.2.2.2.1 h.nL.2.2.2.2 h.ap h.nX
theorem NoT.app2 {S T : List Addr} {H : Hp} (a : NoT S H) (b : NoT T H) : NoT (S ++ T) H := fun c hc => by
  rcases List.mem_append.mp hc with q | q
  · exact a c q
  · exact b c q
theorem LW.drv (h : LW K H P rs m L M A N X) (ab : Abs K H' L M' A' N') (g : MI A') (dr : DrvAt K H' L.m X') (xo : X'.o = X.o) (sn : SnOk X') (ks : KS (L.all ++ X.all) H H') (fr : ∀ b ∈ X'.all, b ∈ X.all ∨ H b = none) : LW K H' P rs m L M' A' N' X' := by
  have nt : NoT (L.all ++ X.all) H := NoT.app2 h.ab.mem.noT h.dr.noT
  have no : ∀ {b : Addr}, b ∉ L.all → b ∉ X.all → b ∉ L.all ++ X.all := fun n1 n2 z => (List.mem_append.mp z).elim n1 n2
  have nn : ∀ {b : Addr}, H b ≠ none → b ∉ X.all → b ∉ X'.all := fun e n z => (fr _ z).elim n e
  have hs : ∀ {b : Addr} {u : HO}, H b = some u → H b ≠ none := fun e z => by rw [e] at z; cases z
  obtain ⟨ys, e, d⟩ := h.du
  obtain ⟨a1, a2, a3, a4, a5⟩ := h.nL
  obtain ⟨b1, b2, b3, b4, b5⟩ := h.nX
  refine h.ks ks nt ab g dr (xo.trans h.xo) sn (h.tp.ks ks (no a1 b1) (no a2 b2)) (no a3 b3) (no a4 b4) (no a5 b5) (fun b hb => ?_) ⟨nn h.tp.at b1, nn h.tp.atl b2, nn (hs h.wo) b3, nn (hs h.wl) b4, nn (hs e) b5⟩
  rcases fr b hb with q | q
  · exact h.ap b q
  · exact h.ab.mem.nin q
end
def stW : St → Str
  | .due _ => "due" | .wait => "wait" | .rst => "reset" | .rdy _ => "ready" | .brk => "broken"
def LSt (rs : List RQ) (m : Nat) (X : DV) (pl tr : Nat) : St → Prop
  | .due rem => ∃ pre, dueD rs m = pre ++ rem ∧ pre.length = pl ∧ X.md = (pl : Int) ∧ tr = 0
  | .wait => tr = 0
  | .rst => tr = 0
  | .rdy j => tr = j
  | .brk => True
theorem init_ph {rs : List RQ} {m : Nat} : PhS rs m (.due (dueD rs m)) 0 (initD 0 rs) := by
  rw [due_tail]
  refine PhS.lend (i := 0) (by decide) ⟨rfl, rfl, rfl, rfl, rfl, ?_, fun i x hx => ?_, rfl, fun i s hs => ?_, ?_, Nat.le_refl _, by decide⟩ rfl rfl rfl rfl (Nat.le_refl _) rfl
  · show (rs.map _).length = _
    rw [List.length_map]
  · have hx : (rs.map fun r => (⟨r, none, none, 0⟩ : ED))[i]? = some x := hx
    rw [List.getElem?_map] at hx
    cases e : rs[i]? with
    | none =>
      rw [e] at hx
      cases hx
    | some r =>
      rw [e] at hx
      cases hx
      exact ⟨rfl, rfl, rfl, rfl⟩
  · have hs : ([] : List SD)[i]? = some s := hs
    simp at hs
  · show (List.range rs.length).map _ = (List.range (rs.length - 0)).map _
    rw [Nat.sub_zero]
    refine List.map_congr_left fun i _ => ?_
    omega
/-- what is seen of what is under way -/
theorem ph_way {rs : List RQ} {m : Nat} {st : St} {t : Int} {D : DD} (hp : PhS rs m st t D) (hs : SentOk rs m) (h : (∃ rem, st = .due rem) ∨ st = .wait) : ∃ f k, Core rs f k D ∧ (k : Int) = max 0 (min (m : Int) ((D.md - 2) / 7)) := by
  cases hp with
  | @lend _ i hi c fr md th le re pt =>
    refine ⟨_, _, c, ?_⟩
    rw [md]
    omega
  | @idle _ k hk c fr md le pt =>
    refine ⟨_, _, c, ?_⟩
    rw [md]
    omega
  | @send _ k i hk hi c fr md th le re pt =>
    refine ⟨_, _, c, ?_⟩
    rw [md]
    omega
  | pidle hm c md n0 n1 fn le pt =>
    refine ⟨_, _, c, ?_⟩
    rw [md]
    omega
  | poll hm c md n0 n1 fn th le re pt =>
    refine ⟨_, _, c, ?_⟩
    rw [md]
    omega
  | look hm c md n0 n1 fn p4 th le re =>
    refine ⟨_, _, c, ?_⟩
    rw [md]
    omega
  | back hm hi c md n0 bh th le re =>
    have := hs.m3
    refine ⟨_, _, c, ?_⟩
    rw [md]
    omega
  | wait hm c md bh th le re tk =>
    have := hs.m3
    refine ⟨_, _, c, ?_⟩
    omega
  | rst => rcases h with ⟨_, h⟩ | h <;> cases h
  | rdy => rcases h with ⟨_, h⟩ | h <;> cases h
  | brk => rcases h with ⟨_, h⟩ | h <;> cases h
theorem LW.own {K : PySem.W.Frag} {H : Hp} {P : Pl} {rs : List RQ} {m : Nat} {L : ML} {M : MS} {A : AM} {N : Nat} {X : DV} {D : Addr} {us vs : List V} (h : LW K H P rs m L M A N X) (eD : H D = some (.lst us)) (n1 : D ≠ P.t) (n2 : D ≠ P.l) (n4 : D ≠ P.dl) (n5 : D ≠ P.du) (nL : D ∉ L.all) (nX : D ∉ X.all) : LW K (upd H D (.lst vs)) P rs m L M A N X := by
  have n3 : D ≠ P.o := fun z => by
    have := h.wo
    rw [← z, eD] at this
    cases this
  have ks : KS [D] H (upd H D (.lst vs)) := KS.refl.upd (List.mem_singleton_self _)
  have nt : NoT [D] H := fun b hb => by
    rw [List.mem_singleton.mp hb, eD]
    exact ⟨fun _ z => (nomatch z), fun _ _ z => (nomatch z)⟩
  have no : ∀ {b : Addr}, D ≠ b → b ∉ [D] := fun n z => n (List.mem_singleton.mp z).symm
  exact h.ks ks nt (h.ab.ks ks nt fun b hb => by rw [List.mem_singleton.mp hb]; exact nL) h.g (h.dr.ks ks nt fun b hb z => nX (List.mem_singleton.mp z ▸ hb)) h.xo h.sn (h.tp.ks ks (no n1) (no n2)) (no n3) (no n4) (no n5) h.ap h.nX
theorem LW.new {K : PySem.W.Frag} {H : Hp} {P : Pl} {rs : List RQ} {m : Nat} {L : ML} {M : MS} {A : AM} {N : Nat} {X : DV} {D : Addr} (h : LW K H P rs m L M A N X) (hD : H D = none) : D ≠ P.t ∧ D ≠ P.l ∧ D ≠ P.dl ∧ D ≠ P.du ∧ D ∉ L.all ∧ D ∉ X.all := by
  obtain ⟨ys, e, _⟩ := h.du
  exact ⟨h.tp.nt hD, h.tp.nl hD, (ne_of_none h.wl hD).symm, (ne_of_none e hD).symm, h.ab.mem.nin hD, h.dr.nin hD⟩
/-- what stands between two turns -/
def LP (K : PySem.W.Frag) (P : Pl) (rs : List RQ) (m : Nat) (a p : Addr) (late : Int) (i : Nat) (σ : L2.St) (H' : Hp) : Prop := ∃ x10 x11 x12 x13 x14 x15 x16 x17 x18 x19 x20 x21 L M A X st, ∃ pl tr : Nat,
  σ = [some (.ref a), some (.ref P.t), some (.ref p), some (.ref P.o), some (.ref P.du), some (.int (m : Int)), some (.int late), some (.int (pl : Int)), some (.int (tr : Int)), some (.str (stW st)), x10, x11, x12, x13, x14, x15, x16, x17, x18, x19, x20, x21] ∧
  LW K H' P rs m L M A (2 * i) X ∧ PhS rs m st (A.tix 0) X.dat ∧ LSt rs m X pl tr st
theorem LW.playG {K : PySem.W.Frag} {H : Hp} {P : Pl} {rs : List RQ} {m : Nat} {L : ML} {M : MS} {A : AM} {N : Nat} {X : DV} {st : St} {a1 p1 : Addr} {Q : VK} {E : XK} (I : LW K H P rs m L M A N X) (hp : PhS rs m st (A.tix 0) X.dat) (hN : N < 2900) (ha : SqT K H a1 [.str "guard", .int ((0 : Nat) : Int)]) (hpp : H p1 = some (.lst [.ref a1])) (nL : p1 ∉ L.all)
    (k : ∀ v H' M' A', LW K H' P rs m L M' A' (N + 1) X → PhS rs m st (A'.tix 0) X.dat → Q v H') : spPlay K [.ref P.o, .ref p1] H Q E := by
  refine ⟨P.o, p1, a1, P.wd, P.dl, P.vl, P.ll, L.m, P.xo, P.d1, rfl, hpp, I.wo, I.wl, fun v D H' => H' D = some (.lst []) ∧ H' p1 = some (.lst [.ref a1]) ∧ p1 ≠ D ∧ (D ≠ P.t ∧ D ≠ P.l ∧ D ≠ P.dl ∧ D ≠ P.du ∧ D ∉ L.all ∧ D ∉ X.all) ∧ ∃ M' A', LW K H' P rs m L M' A' (N + 1) X ∧ PhS rs m st (A'.tix 0) X.dat, ?_, fun D hD Q' hQ => ?_⟩
  · rintro v D H' ⟨e1, e2, n, ⟨n1, n2, n4, n5, nl, nx⟩, M', A', I', hp'⟩
    exact ⟨e1, e2, n, k _ _ M' A' (I'.own e1 n1 n2 n4 n5 nl nx) hp'⟩
  · have sD := Same.new (o := HO.lst []) (Same.refl _) hD
    have I1 := I.same sD
    have npD : p1 ≠ D := ne_of_none hpp hD
    have nn := I.new hD
    refine ⟨P.o, a1, P.wd, P.dl, P.vl, P.ll, L.m, P.xo, P.d1, rfl, I1.wo, I1.wl, .inr ⟨Same.seqT sD ha, ?_⟩⟩
    refine ⟨P.o, P.wd, P.dl, P.vl, P.ll, L, M, A, N, rfl, I1.wo, I1.ab, I1.g, hN, fun b A' M' H' ab g et ks => hQ _ _ ⟨ks _ _ upd_same nn.2.2.2.2.1, ks _ _ (sD _ _ hpp) nL, npD, nn, M', A', I1.grd ab g ks, by rw [et]; exact hp⟩⟩
theorem LW.playD {K : PySem.W.Frag} {H : Hp} {P : Pl} {rs : List RQ} {m : Nat} {L : ML} {M : MS} {A : AM} {N : Nat} {X : DV} {st : St} {a1 p1 : Addr} {Q : VK} {E : XK} (I : LW K H P rs m L M A N X) (ok : ∀ r ∈ rs, r.Ok) (hs : SentOk rs m) (hl : rs.length ≤ 60) (hp : PhS rs m st (A.tix 0) X.dat) (hN : N < 2900) (ha : SqT K H a1 [.str "driver", .int ((0 : Nat) : Int)]) (hpp : H p1 = some (.lst [.ref a1])) (nL : p1 ∉ L.all) (nX : p1 ∉ X.all)
    (k0 : ∀ D X' H', H' D = some (.lst [.bl false]) → LW K H' P rs m L M A N X' → X'.dat = X.dat → (st = .brk ∨ st = .due [] ∧ m = 0) → Q (.ref D) H')
    (k1 : ∀ D X' H' M' A', H' D = some (.lst [.bl true]) → LW K H' P rs m L M' A' (N + 1) X' → FX rs m st A X.md A' X'.dat → Q (.ref D) H') : spPlay K [.ref P.o, .ref p1] H Q E := by
  obtain ⟨dv, wk, alt⟩ := alt_ph (A := A) ok hs hl hp rfl rfl I.sn
  refine ⟨P.o, p1, a1, P.wd, P.dl, P.vl, P.ll, L.m, P.xo, P.d1, rfl, hpp, I.wo, I.wl, fun v D H' => H' D = some (.lst []) ∧ H' p1 = some (.lst [.ref a1]) ∧ p1 ≠ D ∧ ∃ X', (D ≠ P.t ∧ D ≠ P.l ∧ D ≠ P.dl ∧ D ≠ P.du ∧ D ∉ L.all ∧ D ∉ X'.all) ∧
    ((v = .bl false ∧ LW K H' P rs m L M A N X' ∧ X'.dat = X.dat ∧ (st = .brk ∨ st = .due [] ∧ m = 0)) ∨ (v = .bl true ∧ ∃ M' A', LW K H' P rs m L M' A' (N + 1) X' ∧ FX rs m st A X.md A' X'.dat)), ?_, fun D hD Q' hQ => ?_⟩
  · rintro v D H' ⟨e1, e2, n, X', ⟨n1, n2, n4, n5, nl, nx⟩, c⟩
    refine ⟨e1, e2, n, ?_⟩
    rcases c with ⟨rfl, I', ed, hst⟩ | ⟨rfl, M', A', I', hF⟩
    · exact k0 D X' _ upd_same (I'.own e1 n1 n2 n4 n5 nl nx) ed hst
    · exact k1 D X' _ M' A' upd_same (I'.own e1 n1 n2 n4 n5 nl nx) hF
  · have sD := Same.new (o := HO.lst []) (Same.refl _) hD
    have I1 := I.same sD
    have npD : p1 ≠ D := ne_of_none hpp hD
    obtain ⟨n1, n2, n4, n5, nl, nx⟩ := I.new hD
    have here : ∀ {X' : DV}, (∀ b ∈ X'.all, b ∈ X.all ∨ upd H D (.lst []) b = none) → D ∉ X'.all := fun fr z => by
      rcases fr D z with q | q
      · exact nx q
      · rw [upd_same] at q
        cases q
    refine ⟨P.o, a1, P.wd, P.dl, P.vl, P.ll, L.m, P.xo, P.d1, rfl, I1.wo, I1.wl, .inl ⟨Same.seqT sD ha, ?_⟩⟩
    refine ⟨L, M, A, N, X, by rw [I.xo], I1.dr, dv, wk, I1.sn, I1.ab, I1.g, hN, I1.ap, FX rs m st A X.md, F0X m st X, alt, fun X' H' ab dr eo ks fr sn hF => ?_, fun X' H' M' A' ab g dr eo ks fr sn hF => ?_⟩
    · have ks2 : KS (L.all ++ X.all) (upd H D (.lst [])) H' := ks.mono fun b hb => List.mem_append_right _ hb
      exact hQ _ _ ⟨ks _ _ upd_same nx, ks _ _ (sD _ _ hpp) nX, npD, X', ⟨n1, n2, n4, n5, nl, here fr⟩, .inl ⟨rfl, I1.drv ab I.g dr eo sn ks2 fr, hF.1, hF.2⟩⟩
    · have no : ∀ {b : Addr}, b ∉ L.all → b ∉ X.all → b ∉ L.all ++ X.all := fun n1 n2 z => (List.mem_append.mp z).elim n1 n2
      exact hQ _ _ ⟨ks _ _ upd_same (no nl nx), ks _ _ (sD _ _ hpp) (no nL nX), npD, X', ⟨n1, n2, n4, n5, nl, here fr⟩, .inr ⟨rfl, M', A', I1.drv ab g dr eo sn ks fr, hF⟩⟩
theorem ph_brk {rs : List RQ} {m : Nat} {t : Int} {X : DV} (h : PhS rs m .brk t X.dat) : 0 < m ∧ (X.es.all fun x => x.an.isSome) = true ∧ X.es.length = rs.length := by
  generalize hD : X.dat = D at h
  cases h with
  | brk hm bk le dv an el n =>
    subst hD
    refine ⟨hm, ?_, ?_⟩
    · rw [List.all_eq_true]
      intro x hx
      exact an x.dat (List.mem_map.mpr ⟨x, hx, rfl⟩)
    · have el : (X.es.map EX.dat).length = rs.length := el
      rw [List.length_map] at el
      exact el
def spLaw (K : PySem.W.Frag) : Sp := fun vs H Q _ => ∃ (a : Addr) (ns : List Int), vs = [.ref a] ∧ SqL K H a (ns.map V.int) ∧ ns.length ≤ 63 ∧ ∀ H', Q (.bl true) H'
end Rb
namespace Rb
open PySem PySem.Spec PyProof.Rows L2
theorem atI_last {xs : List V} {x : V} {ys : List V} (h : xs = ys ++ [x]) : atI xs (-1) = some x := by
  subst h
  unfold atI ixN
  rw [if_neg (by decide), if_pos (by rw [List.length_append]; show -(((ys.length + 1 : Nat)) : Int) ≤ -1; omega)]
  have : (-1 + (((ys ++ [x]).length : Nat) : Int)).toNat = ys.length := by
    rw [List.length_append]
    show (-1 + ((ys.length + 1 : Nat) : Int)).toNat = _
    omega
  show (ys ++ [x])[(-1 + (((ys ++ [x]).length : Nat) : Int)).toNat]? = some x
  rw [this]
  simp
theorem mNo {n : Int} {aG aC aB aJ aL : Addr} {f : Str} (h : fix f mNames = none := by decide +kernel) : (mFld n aG aC aB aJ aL).lookup f = none := zn h
theorem last_of {K : PySem.W.Frag} {H : Hp} {vs : List V} {ds : List PyData} {d : PyData} (h : DpAll K H vs (ds ++ [d])) : ∃ ws v, vs = ws ++ [v] ∧ Dp K H v d := by
  have ne : vs ≠ [] := fun z => by
    have := Rb.DpAll.len h
    rw [z, List.length_append] at this
    simp at this
  obtain ⟨ws, x, es, d1, e1, e2, hA, hX⟩ := Rb.DpAll.last h ne
  have := List.append_inj_right' e2 rfl
  injection this with this
  subst this
  exact ⟨ws, x, e1, hX⟩
theorem dp_b {K : PySem.W.Frag} {H : Hp} {b c : Bool} (h : b = c) : Dp K H (.bl b) (.bool c) := by
  subst h
  exact .bl _
theorem eqv_int {i j : Int} : PyData.eqv (.int i) (.int j) = decide (i = j) := by
  by_cases h : i = j <;> simp [PyData.eqv, h]
def optD : Option Int → PyData
  | none => .none
  | some i => .int i
def rowD (x : EX) : PyData := .tuple [ansD x.an, optD x.fi, optD x.an]
theorem dp_opt {K : PySem.W.Frag} {H : Hp} (o : Option Int) : Dp K H (optV o) (optD o) := by
  cases o
  · exact .non
  · exact .int _
theorem rowD_nl (x : EX) : noL (rowD x) = true := by
  show (noL (ansD x.an) && (noL (optD x.fi) && (noL (optD x.an) && true))) = true
  rw [ansD_nl]
  cases x.fi <;> cases x.an <;> rfl
theorem ansD_gd (a : Option Int) : Gd 1 (ansD a) := by
  cases a with
  | none => exact .none
  | some _ =>
    refine Gd.tup (n := 0) fun d hd => ?_
    simp only [List.mem_cons, List.not_mem_nil, or_false] at hd
    rcases hd with rfl | rfl
    · exact .str (by decide +kernel)
    · exact .none
theorem optD_gd (a : Option Int) : Gd 1 (optD a) := by
  cases a
  · exact .none
  · exact .int
theorem rowD_gd (x : EX) : Gd 2 (rowD x) := by
  unfold rowD
  refine Gd.tup (n := 1) fun d hd => ?_
  simp only [List.mem_cons, List.not_mem_nil, or_false] at hd
  rcases hd with rfl | rfl | rfl
  · exact ansD_gd _
  · exact optD_gd _
  · exact optD_gd _
theorem pair_sh {a b : PyData} (ha : Gd 0 a) (hb : Gd 0 b) : SeqAt.shaped (.tuple [a, b]) = true := (Gd.tup (n := 0) fun x hx => by
  simp only [List.mem_cons, List.not_mem_nil, or_false] at hx
  rcases hx with rfl | rfl
  · exact ha
  · exact hb).shaped (by decide)
section
variable {P : Program} {w : World} {K : PySem.W.Frag} {mg : Str → Option Value} {base : Heap}
theorem ok_law (T : Top K mg) (TB : ∃ es n, KDict K w (He.ga K "FORMS") es n) {fd : FuncData} (F : FunD K "law" "law" (defArgs s_law) (defBody s_law) (defScope s_law) [] [] (He.ga K "law") fd) : FnOk P w K mg base CX0 12 (He.ga K "law") fd ["script"] (spLaw K) := by
  have G__law_next := ok_law_next (P := P) (w := w) (base := base) T
  have G__law_requests := ok_lreq (P := P) (w := w) (base := base) T
  have G_World___init__ := ok_wld_init (P := P) (w := w) (base := base) T
  have G__law_due := ok_due (P := P) (w := w) (base := base) T
  have G_World_play := ok_play (P := P) (w := w) (base := base) T TB
  have G_Driver_is_done := ok_drv_done (P := P) (w := w) (base := base) T
  have G_Memory_log := ok_log (P := P) (w := w) (base := base) T
  have G_Driver_under_way := ok_way (P := P) (w := w) (base := base) T
  have G_acknowledge := ok_acknowledge (P := P) (w := w) (base := base) T
  have G_Driver_free_frames := ok_free (P := P) (w := w) (base := base) T
  have G_reset := ok_reset (P := P) (w := w) (base := base) T
  have G_ready := ok_ready (P := P) (w := w) (base := base) T
  have G_Driver_rows := ok_drv_rows (P := P) (w := w) (base := base) T
  refine fnk0 F sc_law (fun vs H Q E h => ?_) (fun cdv A outer s H vs Q E hr h => ?_)
  · obtain ⟨a, ns, rfl, _⟩ := h
    rfl
  · obtain ⟨a, ns, rfl, hS, hlen, k⟩ := h
    have hu := hu_of hr
    have hu64 := hr.units
    refine ⟨_, (pss_cons (ps_set (i := 1) sc_law.nd rfl (Or.inl rfl) (pe_lst (pa_cons (pe_callTy call_list_of (by rfl) T.b_list (by decide +kernel) (pa_cons (pv 0) pa_nil)) (pa_cons pe_int (pa_cons pe_int (pa_cons pe_int pa_nil))))))
    (pss_cons (ps_set (i := 2) sc_law.nd rfl (Or.inl rfl) (pe_f G__law_requests hr (by decide) (by rfl) T.g__law_requests pass0 (pa_cons (pv 1) (pa_cons (pe_f G__law_next hr (by decide) (by rfl) T.g__law_next pass0 (pa_cons (pv 1) (pa_cons pe_int pa_nil))) pa_nil))))
    (pss_cons (ps_set (i := 3) sc_law.nd rfl (Or.inl rfl) (pe_kD G_World___init__ hr (by decide) (by rfl) T.g_World T.mk_World passL (pa_cons (pe_lst (pa_cons (pe_callTy call_list_of (by rfl) T.b_list (by decide +kernel) (pa_cons (pv 2) pa_nil)) (pa_cons (pe_lst pa_nil) pa_nil))) pa_nil)))
    (pss_cons (ps_asg (pe_f G__law_due hr (by decide) (by rfl) T.g__law_due pass0 (pa_cons (pv 2) pa_nil)) (pg_tup rfl (pgs_cons (pg_name (i := 4) sc_law.nd rfl (Or.inl rfl)) (pgs_cons (pg_name (i := 5) sc_law.nd rfl (Or.inl rfl)) pgs_nil))))
    (pss_cons (ps_set (i := 6) sc_law.nd rfl (Or.inl rfl) (pe_f G__law_next hr (by decide) (by rfl) T.g__law_next pass0 (pa_cons (pv 1) (pa_cons pe_int pa_nil))))
    (pss_cons (ps_set (i := 7) sc_law.nd rfl (Or.inl rfl) pe_int)
    (pss_cons (ps_set (i := 8) sc_law.nd rfl (Or.inl rfl) pe_int)
    (pss_cons (ps_set (i := 9) sc_law.nd rfl (Or.inl rfl) pe_str)
    (pss_cons (ps_for PassesOwn.never rfl (pi_range1 (by rfl) T.b_range (pa_cons (pe_op op_add pe_int (pe_f G__law_next hr (by decide) (by rfl) T.g__law_next pass0 (pa_cons (pv 1) (pa_cons pe_int pa_nil)))) pa_nil)) (pg_name (i := 10) sc_law.nd rfl (Or.inl rfl)) (pss_cons (ps_join (ps_if (PW.pt (pw_and (pt_cmpR op_lt (pv 6) pe_int (nomark _)) (pw_and1 (pt_cmpR op_eq (pe_f G__law_next hr (by decide) (by rfl) T.g__law_next pass0 (pa_cons (pv 1) (pa_cons (pe_op op_add pe_int (pe_op op_mul pe_int (pv 6))) pa_nil))) pe_int (nomark _))))) (pss_one (ps_expr (pe_m G_World_play hr (by decide) T.cl_World T.me_World_play pass0 (pv 3) (pa_cons (pe_lst (pa_cons (pe_tup (pa_cons pe_str (pa_cons pe_int pa_nil))) pa_nil)) pa_nil)))) pss_nil))
    (pss_cons (ps_set (i := 11) sc_law.nd rfl (Or.inl rfl) (pe_fld (pe_fld (pv 3) rfl) rfl))
    (pss_cons (ps_set (i := 12) sc_law.nd rfl (Or.inl rfl) (pe_m G_World_play hr (by decide) T.cl_World T.me_World_play pass0 (pv 3) (pa_cons (pe_lst (pa_cons (pe_tup (pa_cons pe_str (pa_cons pe_int pa_nil))) pa_nil)) pa_nil)))
    (pss_cons (ps_if (PW.pt (pw_or (pt_cmpR (op_neD hu64) (pv 12) (pe_lst (pa_cons (pe_cmpR op_gt (pe_fld (pe_fld (pv 3) rfl) rfl) (pv 11) (nomark _)) pa_nil)) (nomark _)) (pw_or1 (pt_cmpR op_gt (pe_fld (pe_fld (pv 3) rfl) rfl) (pe_op op_add (pv 11) pe_int) (nomark _))))) (pss_one (ps_ret pe_bl)) pss_nil)
    (pss_cons (ps_if (pt_cmpR op_eq (pe_fld (pe_fld (pv 3) rfl) rfl) (pv 11) (nomark _)) (pss_one (ps_ret (pe_and (pe_or (pe_and (pe_cmpR op_eq (pv 5) pe_int (nomark _)) (pe_one (pe_cmpR op_eq (pv 7) (pe_callB call_len_seq (by rfl) T.b_len PySem.boot_len (pa_cons (pv 4) pa_nil)) (nomark _)))) (pe_one (pe_cmpR op_eq (pv 9) pe_str (nomark _)))) (pe_one (pe_m0 G_Driver_is_done hr (by decide) T.cl_Driver T.me_Driver_is_done pass0 (pe_ix ix_list (pe_fld (pv 3) rfl) pe_int (fun _ _ => rfl))))))) pss_nil)
    (pss_cons (ps_asg (pe_ix ix_list (pe_m0 G_Memory_log hr (by decide) T.cl_Memory T.me_Memory_log pass0 (pe_fld (pv 3) rfl)) (pe_un un_neg pe_int) (fun _ _ => rfl)) (pg_tup rfl (pgs_cons (pg_name (i := 13) sc_law.nd rfl (Or.inr rfl)) (pgs_cons (pg_name (i := 14) sc_law.nd rfl (Or.inl rfl)) (pgs_cons (pg_name (i := 15) sc_law.nd rfl (Or.inl rfl)) (pgs_cons (pg_name (i := 16) sc_law.nd rfl (Or.inl rfl)) pgs_nil))))))
    (pss_one (ps_if (pt_cmpR op_eq (pv 9) pe_str (nomark _)) (pss_cons (ps_if (PW.pt (pw_or (pt_cmpR op_ge (pv 7) (pe_callB call_len_seq (by rfl) T.b_len PySem.boot_len (pa_cons (pv 4) pa_nil)) (nomark _)) (pw_or1 (pt_cmpR (op_neD hu64) (pv 15) (pe_ix ix_list (pv 4) (pv 7) (fun _ _ => rfl)) (nomark _))))) (pss_one (ps_ret pe_bl)) pss_nil)
    (pss_cons (ps_set (i := 7) sc_law.nd rfl (Or.inl rfl) (pe_op op_add (pv 7) pe_int))
    (pss_cons (ps_set (i := 17) sc_law.nd rfl (Or.inl rfl) (pe_callB (call_max2 rfl) (by rfl) T.b_max (by decide +kernel) (pa_cons pe_int (pa_cons (pe_callB (call_min2 rfl) (by rfl) T.b_min (by decide +kernel) (pa_cons (pv 5) (pa_cons (pe_op op_fdiv (pe_op op_sub (pv 7) pe_int) pe_int) pa_nil))) pa_nil))))
    (pss_cons (ps_setLc (i := 18) (own := [("row", 20)]) (g := gName 20) (tt := tYes) rfl sc_law.nd rfl rfl (sw_true rfl rfl rfl (by decide +kernel)) (pi_list (pe_m0 G_Driver_under_way hr (by decide) T.cl_Driver T.me_Driver_under_way pass0 (pe_ix ix_list (pe_fld (pv 3) rfl) pe_int (fun _ _ => rfl)))) (blkOk_by (N := ["script", "tape", "requests", "world", "due", "many", "late", "place", "tries", "state", "turn", "before", "made", "number", "actor", "request", "result", "sent", "frames", "rows", "row", "tag"]) (sc := defScope s_law) (by decide +kernel)) (fun _ _ _ _ _ => (pg_name (i := 20) sc_law.nd rfl (Or.inl rfl))) (fun _ _ _ _ _ => pts_nil) (fun _ _ _ _ _ => (pe_ix (r := rIxT K) ix_tup (pv 20) pe_int (fun _ _ => rfl))))
    (pss_cons (ps_if (pt_cmpR (op_neD hu64) (pv 18) (pe_lc (own := [("tag", 21)]) (g := gName 21) (tt := tYes) rfl sc_law.nd (pi_range1 (by rfl) T.b_range (pa_cons (pv 17) pa_nil)) (blkOk_by (N := ["script", "tape", "requests", "world", "due", "many", "late", "place", "tries", "state", "turn", "before", "made", "number", "actor", "request", "result", "sent", "frames", "rows", "row", "tag"]) (sc := defScope s_law) (by decide +kernel)) (fun _ _ _ _ _ => (pg_name (i := 21) sc_law.nd rfl (Or.inl rfl))) (fun _ _ _ _ _ => pts_nil) (fun _ _ _ _ _ => (pe_op op_add (pv 21) pe_int))) (nomark _)) (pss_one (ps_ret pe_bl)) pss_nil)
    (pss_one (ps_if (PW.pt (pw_and (pt_cmpR op_eq (pv 7) (pe_callB call_len_seq (by rfl) T.b_len PySem.boot_len (pa_cons (pv 4) pa_nil)) (nomark _)) (pw_and1 (pt_cmpR op_gt (pv 5) pe_int (nomark _))))) (pss_one (ps_set (i := 9) sc_law.nd rfl (Or.inl rfl) pe_str)) pss_nil))))))) (pss_one (ps_if (pt_cmpR op_eq (pv 9) pe_str (nomark _)) (pss_cons (ps_if (pt_cmpR (op_neD hu64) (pv 15) (pe_tup (pa_cons pe_str (pa_cons (pe_f G_acknowledge hr (by decide) (by rfl) T.g_acknowledge pass0 (pa_cons pe_int pa_nil)) pa_nil))) (nomark _)) (pss_one (ps_ret pe_bl)) pss_nil)
    (pss_one (ps_if (pt_cmpR (op_eqD hu64) (pv 16) (pe_op op_add (pv 5) pe_int) (nomark _)) (pss_cons (ps_set (i := 9) sc_law.nd rfl (Or.inl rfl) pe_str)
    (pss_one (ps_if (pt_cmpR (op_neD hu64) (pe_m0 G_Driver_free_frames hr (by decide) T.cl_Driver T.me_Driver_free_frames pass0 (pe_ix ix_list (pe_fld (pv 3) rfl) pe_int (fun _ _ => rfl))) (pe_lst (pa_cons pe_int (pa_cons pe_int (pa_cons pe_int (pa_cons pe_int pa_nil))))) (nomark _)) (pss_one (ps_ret pe_bl)) pss_nil))) pss_nil))) (pss_one (ps_if (pt_cmpR op_eq (pv 9) pe_str (nomark _)) (pss_cons (ps_if (pt_cmpR (op_neD hu64) (pv 15) (pe_tup (pa_cons pe_str (pa_cons (pe_f G_reset hr (by decide) (by rfl) T.g_reset pass0 (pa_cons pe_int pa_nil)) (pa_cons pe_int pa_nil)))) (nomark _)) (pss_one (ps_ret pe_bl)) pss_nil)
    (pss_one (ps_set (i := 9) sc_law.nd rfl (Or.inl rfl) pe_str))) (pss_cons (ps_set (i := 8) sc_law.nd rfl (Or.inl rfl) (pe_op op_add (pv 8) pe_int))
    (pss_cons (ps_if (PW.pt (pw_or (pt_cmpR (op_neD hu64) (pv 15) (pe_tup (pa_cons pe_str (pa_cons (pe_f G_ready hr (by decide) (by rfl) T.g_ready pass0 (pa_cons pe_int pa_nil)) pa_nil))) (nomark _)) (pw_or1 (pt_cmpR op_gt (pv 8) pe_int (nomark _))))) (pss_one (ps_ret pe_bl)) pss_nil)
    (pss_one (ps_if (pt_cmpR op_eq (pv 8) pe_int (nomark _)) (pss_cons (ps_set (i := 9) sc_law.nd rfl (Or.inl rfl) pe_str)
    (pss_cons (ps_set (i := 19) sc_law.nd rfl (Or.inl rfl) (pe_m0 G_Driver_rows hr (by decide) T.cl_Driver T.me_Driver_rows pass0 (pe_ix ix_list (pe_fld (pv 3) rfl) pe_int (fun _ _ => rfl))))
    (pss_one (ps_if (PW.pt (pw_or (pt_cmpR (op_neD hu64) (pe_lc (own := [("row", 20)]) (g := gName 20) (tt := tYes) rfl sc_law.nd (pi_list (pv 19)) (blkOk_by (N := ["script", "tape", "requests", "world", "due", "many", "late", "place", "tries", "state", "turn", "before", "made", "number", "actor", "request", "result", "sent", "frames", "rows", "row", "tag"]) (sc := defScope s_law) (by decide +kernel)) (fun _ _ _ _ _ => (pg_name (i := 20) sc_law.nd rfl (Or.inl rfl))) (fun _ _ _ _ _ => pts_nil) (fun _ _ _ _ _ => (pe_slice (r := rSlA K) sl_tupA (pv 20) (po_some pe_int) (po_some pe_int)))) (pe_lc (own := [("row", 20)]) (g := gName 20) (tt := tYes) rfl sc_law.nd (pi_list (pv 19)) (blkOk_by (N := ["script", "tape", "requests", "world", "due", "many", "late", "place", "tries", "state", "turn", "before", "made", "number", "actor", "request", "result", "sent", "frames", "rows", "row", "tag"]) (sc := defScope s_law) (by decide +kernel)) (fun _ _ _ _ _ => (pg_name (i := 20) sc_law.nd rfl (Or.inl rfl))) (fun _ _ _ _ _ => pts_nil) (fun _ _ _ _ _ => (pe_tup (pa_cons (pe_tup (pa_cons pe_str (pa_cons pe_non pa_nil))) (pa_cons (pe_ix (r := rIxT K) ix_tup (pv 20) pe_int (fun _ _ => rfl)) (pa_cons (pv 13) pa_nil)))))) (nomark _)) (pw_or1 (pt_cmpR op_ne (pe_callB call_len_seq (by rfl) T.b_len PySem.boot_len (pa_cons (pv 19) pa_nil)) (pv 5) (nomark _))))) (pss_one (ps_ret pe_bl)) pss_nil)))) pss_nil)))))))))))))))))
    (pss_one (ps_ret pe_bl))))))))))), ?_⟩
    refine ⟨_, rfl, a, ns.map V.int, rfl, .inl hS, fun l fl => ⟨(by show 4 ≤ sizeLine; decide), fun t ft => ?_⟩⟩
    have s1 := Same.new (o := HO.lst (ns.map V.int)) (Same.refl _) fl
    have s2 := Same.new (o := HO.lst [V.ref l, .int 0, .int 0, .int 5]) (Same.refl _) ft
    have tp0 : Tp (upd (upd H l (.lst (ns.map V.int))) t (.lst [V.ref l, .int 0, .int 0, .int 5])) t l := ⟨⟨l, ns, 0, 0, 5⟩, rfl, upd_same, s2 _ _ upd_same, ne_of_none upd_same ft, hlen, Nat.zero_le _, Int.le_refl _, (by show (0 : Int) ≤ 5; decide), (by show (5 : Int) < 2147483647; decide)⟩
    -- the requests
    refine ⟨_, rfl, _, rfl, t, l, 8, rfl, tp0, by decide, by decide, fun r1 H1 kp1 tp1 r10 r11 => ?_⟩
    refine ⟨t, l, r1, rfl, tp1, r10, by omega, fun p H2 xs rs kp2 tp2 fp ep hxs hok hl => ?_⟩
    clear kp1 kp2 tp1 tp0 s1 s2
    -- the world
    refine ⟨_, rfl, p, xs, rfl, .inl (SqL.of ep), fun l0 fl0 => ⟨(by show 0 ≤ sizeLine; exact Nat.zero_le _), fun l1 fl1 => ⟨(by show 2 ≤ sizeLine; decide), fun q fq => fun o d ho hd nod => ?_⟩⟩⟩
    have w1 := Same.new (o := HO.lst xs) (Same.refl _) fl0
    have w2 := Same.new (o := HO.lst []) (Same.refl _) fl1
    have w3 := Same.new (o := HO.lst [V.ref l0, .ref l1]) (Same.refl _) fq
    have w123 := (w1.trans w2).trans w3
    have w45 : Same (upd (upd (upd H2 l0 (.lst xs)) l1 (.lst [])) q (.lst [V.ref l0, .ref l1])) (upd (upd (upd (upd (upd H2 l0 (.lst xs)) l1 (.lst [])) q (.lst [V.ref l0, .ref l1])) d (.own o)) o (.ins (He.ga K "World") d [])) := Same.new (Same.new (Same.refl _) hd) ho
    have w5 := w123.trans w45
    refine ⟨o, d, q, l0, l1, xs, rs, rfl, upd_same, (by rw [upd_ne nod, upd_same]), w45 _ _ upd_same, ((w2.trans w3).trans w45) _ _ upd_same, (w3.trans w45) _ _ upd_same, hxs.same w5, hok, by omega, fun L M X dl vl ll d1 H3 wo wl ab dr dX ap nDL nDX fL fX fD kp => ⟨rfl, ?_⟩⟩
    have kH : ∀ {b : Addr} {u : HO}, H2 b = some u → H3 b = some u := fun {b u} e => kp b u (w5 _ _ e) (ne_of_none (w123 _ _ e) ho)
    have s3 : Same H2 H3 := fun b u e => kH e
    have nLX : ∀ {b : Addr}, H2 b ≠ none → b ∉ L.all ∧ b ∉ X.all := fun {b} e => by
      cases c : H2 b with
      | none => exact absurd c e
      | some u =>
        refine ⟨fun z => ?_, fun z => ?_⟩
        · have := fL b z
          rw [w5 _ _ c] at this
          cases this
        · have := fX b z
          rw [w5 _ _ c] at this
          cases this
    have noLX : o ∉ L.all ∧ o ∉ X.all := by
      refine ⟨fun z => ?_, fun z => ?_⟩
      · have := fL o z
        rw [upd_same] at this
        cases this
      · have := fX o z
        rw [upd_same] at this
        cases this
    -- what is due
    refine ⟨_, rfl, p, xs, rs, rfl, s3 _ _ ep, hxs.same s3, hok, by omega, fun m qd r ys H4 hm eq er dys fr s4 => ⟨qd, _, rfl, SqT.of eq, rfl, _, _, rfl, _, _, rfl, rfl, ?_⟩⟩
    have nrt : t ≠ r := fun z => by
      have := (tp2.same s3).at
      rw [z] at this
      exact this fr
    have ntd : t ≠ dl := fun z => by
      obtain ⟨zs, e⟩ := tp2.lst
      have := w5 _ _ e
      rw [z, fD] at this
      cases this
    have I4 : LW K H4 ⟨t, l, o, d, dl, vl, ll, d1, r, X.o⟩ rs m L M A0 0 X := ⟨ab.same s4, ⟨rfl, rfl, rfl, ⟨0, rfl, Int.le_refl _⟩, fun x hx => nomatch hx⟩, dr.same s4, rfl, fun z => (by
      have e : X.th = .rest := congrArg DD.th dX
      rw [e] at z
      cases z), (tp2.same s3).same s4, s4 _ _ wo, s4 _ _ wl, ⟨ys, er, dys⟩, ap, ⟨(nLX tp2.at).1, (nLX tp2.atl).1, noLX.1, nDL, fun z => ab.mem.nin fr z⟩, ⟨(nLX tp2.at).2, (nLX tp2.atl).2, noLX.2, nDX, fun z => dr.nin fr z⟩, ⟨ntd, nrt⟩, due_nl hm.ml⟩
    have hp0 : PhS rs m (.due (dueD rs m)) (A0.tix 0) X.dat := by
      rw [dX]
      exact init_ph
    have mX : X.md = 0 := congrArg DD.md dX
    clear w1 w2 w3 w123 w45 w5 kH s3 nLX noLX nrt ntd kp fL fX fD ab dr ap nDL nDX wo wl ho hd nod fq fl0 fl1 dX ep hxs
    refine ⟨_, rfl, t, l, 3, rfl, I4.tp, by decide, by decide, fun late H5 kp5 tp5 la0 la1 => ?_⟩
    have I5 := I4.next kp5 tp5
    clear I4 kp5 tp5 s4 eq er dys fr
    refine ⟨_, rfl, t, l, 30, rfl, I5.tp, by decide, by decide, fun r6 H6 kp6 tp6 r60 r61 => ?_⟩
    have I6 := I5.next kp6 tp6
    clear I5 kp6 tp6
    refine ⟨_, _, rfl, rfl, _, rfl, by omega, by omega, ?_⟩
    obtain ⟨P0, eP⟩ : ∃ P0 : Pl, P0 = ⟨t, l, o, d, dl, vl, ll, d1, r, X.o⟩ := ⟨_, rfl⟩
    rw [← eP] at I6
    have et : P0.t = t := by rw [eP]
    have el : P0.l = l := by rw [eP]
    have eo : P0.o = o := by rw [eP]
    have ed : P0.du = r := by rw [eP]
    rw [← et, ← eo, ← ed]
    clear et el eo ed eP
    refine for_range (n := (330 + r6).toNat) (LP K P0 rs m a p late) ⟨none, none, none, none, none, none, none, none, none, none, none, none, L, M, A0, X, .due (dueD rs m), 0, 0, rfl, I6, hp0, [], rfl, rfl, mX, rfl⟩ ?_ ?_
    · have hl60 : rs.length ≤ 60 := by omega
      clear I6 hp0 mX r10 r11 fp tp2 hl
      rintro i σ H1 hi ⟨x10, x11, x12, x13, x14, x15, x16, x17, x18, x19, x20, x21, L, M, A, X, st, pl, tr, rfl, I, hp, hls⟩
      have hi : i < 360 := by omega
      -- the guard
      refine ⟨fun σ' H' => ∃ M A, σ' = [some (.ref a), some (.ref P0.t), some (.ref p), some (.ref P0.o), some (.ref P0.du), some (.int (m : Int)), some (.int late), some (.int (pl : Int)), some (.int (tr : Int)), some (.str (stW st)), some (.int (0 + (i : Int))), x11, x12, x13, x14, x15, x16, x17, x18, x19, x20, x21] ∧ LW K H' P0 rs m L M A (2 * i + 1) X ∧ PhS rs m st (A.tix 0) X.dat, ?_, ?_⟩
      · refine ⟨_, rfl, _, _, rfl, rfl, _, rfl, ?_⟩
        refine ite2 (fun c => ?_) (fun c => iteN (by decide) ⟨M, A, rfl, I.mono (by omega), hp⟩)
        have c := of_decide_eq_true c
        refine ⟨_, rfl, _, rfl, _, _, rfl, rfl, .inl ⟨by omega, by omega⟩, _, _, rfl, rfl, P0.t, P0.l, _, rfl, I.tp, by omega, by omega, fun rg H2 kp2 tp2 rg0 rg1 => ⟨rfl, _, rfl, ?_⟩⟩
        have I2 := I.next kp2 tp2
        refine ite2 (fun c2 => ?_) (fun c2 => ⟨M, A, rfl, I2.mono (by omega), hp⟩)
        refine ⟨_, rfl, P0.o, P0.wd, _, rfl, I2.wo, zn (by decide +kernel), (by show 2 ≤ sizeLine; decide), fun a1 fa1 => ⟨(by show 1 ≤ sizeLine; decide), fun p1 fp1 => ?_⟩⟩
        have v1 := Same.new (o := HO.tup [V.str "guard", .int 0]) (Same.refl _) fa1
        have v2 := Same.new (o := HO.lst [V.ref a1]) (Same.refl _) fp1
        have I3 := (I2.same v1).same v2
        dsimp only [tNil, List.append_nil]
        exact LW.playG (st := st) I3 hp (by omega) (SqT.of (v2 _ _ upd_same)) upd_same ((I2.same v1).new fp1).2.2.2.2.1 fun v H' M' A' I' hp' => ⟨M', A', rfl, I', hp'⟩
      clear I hp M A
      rintro σ' H2 ⟨M, A, rfl, I, hp⟩
      -- the driver
      refine ⟨_, rfl, P0.o, CW K, P0.wd, _, _, rfl, I.wo, T.cl_World, T.na_World_memory, lw_m, L.m, CM K, L.d, _, _, rfl, I.ab.mem.om, T.cl_Memory, T.na_Memory_count, lm_c, ?_⟩
      refine ⟨_, rfl, P0.o, P0.wd, _, rfl, I.wo, zn (by decide +kernel), (by show 2 ≤ sizeLine; decide), fun a1 fa1 => ⟨(by show 1 ≤ sizeLine; decide), fun p1 fp1 => ?_⟩⟩
      have v1 := Same.new (o := HO.tup [V.str "driver", .int 0]) (Same.refl _) fa1
      have v2 := Same.new (o := HO.lst [V.ref a1]) (Same.refl _) fp1
      have I3 := (I.same v1).same v2
      have nw := (I.same v1).new fp1
      have ec := I.ab.ct
      dsimp only [tNil, List.append_nil]
      refine LW.playD (st := st) I3 hok hm hl60 hp (by omega) (SqT.of (v2 _ _ upd_same)) upd_same nw.2.2.2.2.1 nw.2.2.2.2.2 (fun D X' H3 eD I4 ed hst => ?_) (fun D X' H3 M' A' eD I4 hF => ?_)
      · -- no access
        have dl0 : decide (M.count < M.count) = false := by simp
        refine ⟨_, rfl, _, rfl, P0.o, CW K, P0.wd, _, _, rfl, I4.wo, T.cl_World, T.na_World_memory, lw_m, L.m, CM K, L.d, _, _, rfl, I4.ab.mem.om, T.cl_Memory, T.na_Memory_count, lm_c, _, rfl, _, _, rfl, rfl, (by show 1 ≤ sizeLine; decide), fun q fq => ?_⟩
        have v5 := Same.new (o := HO.lst [V.bl (decide (M.count < M.count))]) (Same.refl _) fq
        have I5 := I4.same v5
        have sh : SeqAt.shaped (.list [.bool false]) = true := Gd.list (n := 0) (fun x hx => by rw [List.mem_singleton.mp hx]; exact .bool) (by decide)
        refine ⟨.list [.bool false], .list [.bool false], .lst (SqL.of (v5 _ _ eD)) (.cons (.bl _) .nil), .lst (SqL.of upd_same) (.cons (dp_b dl0) .nil), sh, sh, _, rfl, ?_⟩
        rw [eqv_self sh]
        refine iteN (by decide) ?_
        refine ⟨_, rfl, P0.o, CW K, P0.wd, _, _, rfl, I5.wo, T.cl_World, T.na_World_memory, lw_m, L.m, CM K, L.d, _, _, rfl, I5.ab.mem.om, T.cl_Memory, T.na_Memory_count, lm_c, _, rfl, _, _, rfl, rfl, _, _, rfl, rfl, _, rfl, iteN ?_ ?_⟩
        · rw [decide_eq_true_eq]
          omega
        refine ⟨_, rfl, P0.o, CW K, P0.wd, _, _, rfl, I5.wo, T.cl_World, T.na_World_memory, lw_m, L.m, CM K, L.d, _, _, rfl, I5.ab.mem.om, T.cl_Memory, T.na_Memory_count, lm_c, _, rfl, rfl, _, rfl, iteY (by simp) ?_⟩
        have done : ∀ {Q' : VK}, (∀ H', Q' (.bl true) H') → X'.es.all (fun x => x.an.isSome) = true → X'.es.length ≤ 60 → spDrvDone K [.ref P0.xo] (upd H3 q (.lst [V.bl (decide (M.count < M.count))])) Q' E0 := fun hQ e1 e2 => ⟨L.m, X', by rw [I5.xo], I5.dr, e2, fun H' _ => by rw [e1]; exact hQ H'⟩
        have oo := I5.dr.oo
        rw [I5.xo] at oo
        rcases hst with rfl | ⟨rfl, rfl⟩
        · obtain ⟨m0, ea, el⟩ := ph_brk (X := X') (by rw [ed]; exact hp)
          refine ⟨_, rfl, rfl, _, rfl, iteN ?_ ⟨_, rfl, iteN (by decide) ⟨_, rfl, rfl, _, rfl, iteY (by decide) ?_⟩⟩⟩
          · rw [decide_eq_true_eq]
            intro z
            injection z with z
            omega
          exact ⟨_, rfl, P0.o, CW K, P0.wd, _, _, rfl, I5.wo, T.cl_World, T.na_World_drivers, lw_d, P0.dl, _, ((0 : Nat) : Int), .ref P0.xo, rfl, rfl, SqL.of I5.wl, atI_n (j := 0) rfl, P0.xo, X'.d, _, rfl, oo, zn (by decide +kernel), done k ea (by omega)⟩
        · have r0 : rs.length = 0 := by
            have h0 := hm.yes
            have b0 : Blk rs 0 = true → False := fun z => by
              unfold Blk at z
              split at z
              · simp at z
              · cases z
            by_cases c : 0 < rs.length
            · exact (b0 (h0 (by decide) c)).elim
            · omega
          have el : X'.es.length = rs.length := by
            obtain ⟨f, kk, c, _⟩ := ph_way hp hm (.inl ⟨_, rfl⟩)
            rw [← ed] at c
            exact c.esl
          have ea : (X'.es.all fun x => x.an.isSome) = true := by
            rw [List.length_eq_zero_iff.mp (el.trans r0)]
            rfl
          obtain ⟨pre, e1, e2, _, _⟩ := hls
          obtain ⟨ys, eu, du⟩ := I5.du
          have ly : (pl : Int) = (ys.length : Int) := by
            rw [Rb.DpAll.len du, e1, List.append_nil, e2]
          refine ⟨_, rfl, rfl, _, rfl, iteY (by decide) ⟨_, rfl, _, rfl, P0.du, ys, rfl, .inl (SqL.of eu), rfl, _, rfl, iteY ?_ ⟨_, rfl, iteY rfl ?_⟩⟩⟩
          · rw [decide_eq_true_eq, ly]
          exact ⟨_, rfl, P0.o, CW K, P0.wd, _, _, rfl, I5.wo, T.cl_World, T.na_World_drivers, lw_d, P0.dl, _, ((0 : Nat) : Int), .ref P0.xo, rfl, rfl, SqL.of I5.wl, atI_n (j := 0) rfl, P0.xo, X'.d, _, rfl, oo, zn (by decide +kernel), done k ea (by omega)⟩
      -- an access
      obtain ⟨rqw, ds, rd, st', hdr, hlog, nx, hp', emd⟩ := hF
      have ect : M'.count = M.count + 1 := by
        rw [I4.ab.ct, ec, hlog, List.length_append]
        rfl
      have dl1 : decide (M.count < M'.count) = true := by
        rw [decide_eq_true_eq]
        omega
      refine ⟨_, rfl, _, rfl, P0.o, CW K, P0.wd, _, _, rfl, I4.wo, T.cl_World, T.na_World_memory, lw_m, L.m, CM K, L.d, _, _, rfl, I4.ab.mem.om, T.cl_Memory, T.na_Memory_count, lm_c, _, rfl, _, _, rfl, rfl, (by show 1 ≤ sizeLine; decide), fun q fq => ?_⟩
      have v5 := Same.new (o := HO.lst [V.bl (decide (M.count < M'.count))]) (Same.refl _) fq
      have I5 := I4.same v5
      have sh : SeqAt.shaped (.list [.bool true]) = true := Gd.list (n := 0) (fun x hx => by rw [List.mem_singleton.mp hx]; exact .bool) (by decide)
      refine ⟨.list [.bool true], .list [.bool true], .lst (SqL.of (v5 _ _ eD)) (.cons (.bl _) .nil), .lst (SqL.of upd_same) (.cons (dp_b dl1) .nil), sh, sh, _, rfl, ?_⟩
      rw [eqv_self sh]
      refine iteN (by decide) ?_
      refine ⟨_, rfl, P0.o, CW K, P0.wd, _, _, rfl, I5.wo, T.cl_World, T.na_World_memory, lw_m, L.m, CM K, L.d, _, _, rfl, I5.ab.mem.om, T.cl_Memory, T.na_Memory_count, lm_c, _, rfl, _, _, rfl, rfl, _, _, rfl, rfl, _, rfl, iteN ?_ ?_⟩
      · rw [decide_eq_true_eq]
        omega
      refine ⟨_, rfl, P0.o, CW K, P0.wd, _, _, rfl, I5.wo, T.cl_World, T.na_World_memory, lw_m, L.m, CM K, L.d, _, _, rfl, I5.ab.mem.om, T.cl_Memory, T.na_Memory_count, lm_c, _, rfl, rfl, _, rfl, iteN ?_ ?_⟩
      · rw [decide_eq_true_eq]
        intro z
        injection z with z
        omega
      -- the log's last row
      have hlg := I5.ab.lg
      rw [hlog] at hlg
      obtain ⟨ws, lv, elog, hlv⟩ := last_of hlg
      refine ⟨_, rfl, P0.o, CW K, P0.wd, _, _, rfl, I5.wo, T.cl_World, T.na_World_memory, lw_m, L.m, L.d, _, rfl, I5.ab.mem.om, mNo, L, M', rfl, I5.ab.mem, fun p9 f9 => ?_⟩
      have s9 := Same.new (o := HO.lst M'.log) (Same.refl _) f9
      have I9 := I5.same s9
      obtain ⟨lt, lxs, rfl, hlt, hld⟩ := dp_tup (hlv.same s9)
      cases hld with
      | cons hd1 hld =>
      cases hd1
      cases hld with
      | @cons va _ _ _ hva hld =>
      cases hld with
      | @cons vr _ _ _ hvr hld =>
      cases hld with
      | @cons vx _ _ _ hvx hld =>
      cases hld
      refine ⟨1, rfl, p9, _, _, .ref lt, rfl, rfl, SqL.of upd_same, atI_last elog, lt, _, rfl, hlt, rfl, _, _, rfl, _, _, rfl, _, _, rfl, _, _, rfl, rfl, ?_⟩
      clear hva hlt hlv hlg elog I4 eD I3 v1 v2 I v5 s9 I5
      have shq := hdr.gd.shaped (by decide)
      have mono : ∀ {H' : Hp}, LW K H' P0 rs m L M' A' (2 * i + 1 + 1) X' → LW K H' P0 rs m L M' A' (2 * (i + 1)) X' := fun h => h.mono (by omega)
      have oo := I9.dr.oo
      rw [I9.xo] at oo
      refine ⟨_, rfl, rfl, _, rfl, ?_⟩
      cases st with
      | due rem =>
        refine iteY (by show decide (V.str "due" = V.str "due") = true; decide +kernel) ?_
        obtain ⟨rem', erem, calt⟩ := nx
        obtain ⟨pre, e1, e2, e3, e4⟩ := hls
        subst erem
        obtain ⟨ys, eu, du⟩ := I9.du
        have ly := Rb.DpAll.len du
        have lpl : pl + rem'.length + 1 = ys.length := by
          rw [ly, e1, List.length_append, List.length_cons, e2]
          omega
        obtain ⟨dv, hdv, ddv⟩ := dpAll_get' du (show (dueD rs m)[pl]? = some (.tuple (.str rqw :: ds)) by
          rw [e1, ← e2, List.getElem?_append_right (Nat.le_refl _), Nat.sub_self]
          rfl)
        refine ⟨_, rfl, _, rfl, P0.du, ys, rfl, .inl (SqL.of eu), _, _, rfl, rfl, _, rfl, iteN ?_ ?_⟩
        · rw [decide_eq_true_eq]
          omega
        refine ⟨_, rfl, _, rfl, _, rfl, P0.du, _, (pl : Int), dv, rfl, rfl, SqL.of eu, atI_n hdv, _, _, hvr, ddv, shq, shq, _, rfl, ?_⟩
        rw [eqv_self shq]
        refine iteN (by decide) ?_
        refine ⟨_, rfl, _, _, rfl, rfl, ?_⟩
        obtain ⟨ff, kk, cc, ekk⟩ := ph_way hp' hm (by
          rcases calt with ⟨_, e⟩ | ⟨_, _, e⟩ | ⟨_, _, e⟩
          · exact .inl ⟨_, e⟩
          · exact .inr e
          · exact .inl ⟨_, e⟩)
        rw [emd, e3] at ekk
        obtain ⟨mv, hmv⟩ : ∃ mv : Int, mv = if ((pl : Int) + 1 - 2) / 7 < (m : Int) then ((pl : Int) + 1 - 2) / 7 else (m : Int) := ⟨_, rfl⟩
        have ek : (if mv > 0 then mv else 0) = (kk : Int) := by
          rw [ekk, hmv]
          split <;> split <;> omega
        refine ⟨_, rfl, _, rfl, _, _, rfl, rfl, _, _, rfl, rfl, ⟨by decide, by decide⟩, _, _, rfl, 0, mv, by rw [hmv], ?_⟩
        rw [ek]
        have kk3 : kk ≤ 3 := Nat.le_trans cc.kf cc.f3
        -- what is under way
        refine ⟨_, rfl, P0.o, CW K, P0.wd, _, _, rfl, I9.wo, T.cl_World, T.na_World_drivers, lw_d, P0.dl, _, ((0 : Nat) : Int), .ref P0.xo, rfl, rfl, SqL.of I9.wl, atI_n (j := 0) rfl, P0.xo, X'.d, _, rfl, oo, zn (by decide +kernel), L.m, X', by rw [I9.xo]; rfl, I9.dr, cc.wk, fun pw zs H10 fpw epw dw s10 => ⟨pw, rfl, ⟨_, SqL.of epw⟩, fun DF hDF => ?_⟩⟩
        have I10 := I9.same s10
        refine lc_list (K := K) (a := pw) (xs := zs) (fun j H11 => H11 DF = some (.lst (((List.range j).map fun k : Nat => ((k + 2 : Nat) : Int)).map V.int)) ∧ Same H10 H11) ⟨upd_same, Same.new (Same.refl _) hDF⟩ (fun j H11 _ h => SqL.of (h.2 _ _ epw)) ?_ ?_
        · rintro j v H11 hj ⟨e11, s11⟩
          obtain ⟨d1, hd1, dd1⟩ := dpAll_get dw hj
          have jk : j < kk := by
            have := (List.getElem?_eq_some_iff.mp hd1).1
            unfold wayD at this
            rw [List.length_map, cc.wsl] at this
            exact this
          obtain ⟨s0, hs0, sk0, _, _⟩ := cc.wsAt jk
          have ed1 : d1 = .tuple [.int (j : Int), .int (j : Int), .int ((j + 2 : Nat) : Int)] := by
            unfold wayD at hd1
            rw [List.getElem?_map, hs0] at hd1
            have e : d1 = .tuple [.int (s0.k : Int), .int (s0.k : Int), .int ((s0.k + 2 : Nat) : Int)] := (Option.some.inj hd1).symm
            rw [sk0] at e
            exact e
          subst ed1
          obtain ⟨t2, ys2, rfl, ht2, hy2⟩ := dp_tup (dd1.same s11)
          obtain ⟨v2, hv2, dv2⟩ := dpAll_get' hy2 (i := 2) rfl
          have := dp_int dv2
          subst this
          refine ⟨rfl, ?_⟩
          refine ⟨_, rfl, t2, _, ((2 : Nat) : Int), .int ((j + 2 : Nat) : Int), rfl, rfl, ht2, atI_n (j := 2) hv2, _, e11, ?_, ?_, Same.put s11 hDF⟩
          · rw [List.length_map, List.length_map, List.length_range, sizeLine_eq]
            omega
          · rw [upd_same, List.range_succ, List.map_append, List.map_append]
            rfl
        rintro H11 ⟨e11, s11⟩
        have lz : zs.length = kk := by
          rw [Rb.DpAll.len dw]
          unfold wayD
          rw [List.length_map, cc.wsl]
        rw [lz] at e11
        have I11 := I10.same s11
        -- as it must be
        refine ⟨_, rfl, _, rfl, (kk : Int), rfl, by omega, by omega, fun DG hDG => ?_⟩
        refine lc_range (n := kk) (fun j H12 => H12 DG = some (.lst (((List.range j).map fun k : Nat => ((k + 2 : Nat) : Int)).map V.int)) ∧ Same H11 H12) ⟨upd_same, Same.new (Same.refl _) hDG⟩ ?_ ?_
        · rintro j H12 hj ⟨e12, s12⟩
          refine ⟨rfl, ?_⟩
          refine ⟨_, rfl, _, _, rfl, rfl, _, e12, ?_, ?_, Same.put s12 hDG⟩
          · rw [List.length_map, List.length_map, List.length_range, sizeLine_eq]
            omega
          · rw [upd_same, List.range_succ, List.map_append, List.map_append, Int.zero_add]
            rfl
        rintro H12 ⟨e12, s12⟩
        have I12 := I11.same s12
        have shf : SeqAt.shaped (.list (((List.range kk).map fun k : Nat => ((k + 2 : Nat) : Int)).map PyData.int)) = true := Gd.list (n := 0) (fun x hx => by
          obtain ⟨y, _, rfl⟩ := List.mem_map.mp hx
          exact .int) (by decide)
        refine ⟨_, _, .lst (SqL.of (s12 _ _ e11)) (dp_ints _), .lst (SqL.of e12) (dp_ints _), shf, shf, _, rfl, ?_⟩
        rw [eqv_self shf]
        refine iteN (by decide) ?_
        have eu12 := ((s10.trans s11).trans s12) _ _ eu
        have emd' : X'.md = ((pl + 1 : Nat) : Int) := by
          have := emd
          rw [e3] at this
          exact this
        refine ⟨_, rfl, _, rfl, P0.du, ys, rfl, .inl (SqL.of eu12), rfl, _, rfl, ?_⟩
        rcases calt with ⟨rne, rfl⟩ | ⟨r0, hm0, rfl⟩ | ⟨r0, hm0, rfl⟩
        · have : rem'.length ≠ 0 := fun z => rne (List.length_eq_zero_iff.mp z)
          refine iteN ?_ (iteN (by decide) ?_)
          · rw [decide_eq_true_eq]
            intro z
            injection z with z
            omega
          exact ⟨_, _, _, _, _, _, _, _, _, _, _, _, L, M', A', X', .due rem', pl + 1, tr, rfl, mono I12, hp', pre ++ [.tuple (.str rqw :: ds)], by rw [e1, List.append_assoc]; rfl, by rw [List.length_append, e2]; rfl, emd', e4⟩
        · subst r0
          refine iteY ?_ ⟨_, rfl, _, _, rfl, rfl, _, rfl, iteY ?_ ?_⟩
          · rw [decide_eq_true_eq]
            have : (pl : Int) + 1 = (ys.length : Int) := by
              rw [← lpl]
              rfl
            rw [← this]
          · rw [decide_eq_true_eq]
            omega
          exact ⟨_, _, _, _, _, _, _, _, _, _, _, _, L, M', A', X', .wait, pl + 1, tr, rfl, mono I12, hp', e4⟩
        · subst r0
          refine iteY ?_ ⟨_, rfl, _, _, rfl, rfl, _, rfl, iteN ?_ ?_⟩
          · rw [decide_eq_true_eq]
            have : (pl : Int) + 1 = (ys.length : Int) := by
              rw [← lpl]
              rfl
            rw [← this]
          · rw [decide_eq_true_eq]
            omega
          exact ⟨_, _, _, _, _, _, _, _, _, _, _, _, L, M', A', X', .due [], pl + 1, tr, rfl, mono I12, hp', pre ++ [.tuple (.str rqw :: ds)], by rw [e1, List.append_nil], by rw [List.length_append, e2]; rfl, emd', e4⟩
      | wait =>
        refine iteN (by show ¬ decide (V.str "wait" = V.str "due") = true; decide +kernel) ?_
        refine ⟨_, rfl, rfl, _, rfl, ?_⟩
        refine iteY (by show decide (V.str "wait" = V.str "wait") = true; decide +kernel) ?_
        obtain ⟨eq, r, rfl, calt⟩ := nx
        rw [eq] at hvr shq
        refine ⟨_, rfl, _, rfl, (by show 2 ≤ sizeLine; decide), fun q1 fq1 => ?_⟩
        have s10 := Same.new (o := HO.tup [V.str "read", .int (ackw 0)]) (Same.refl _) fq1
        have I10 := I9.same s10
        refine ⟨ackD, ackD, hvr.same s10, .tup (SqT.of upd_same) (.cons (.str _) (.cons (.int _) .nil)), shq, shq, _, rfl, ?_⟩
        rw [eqv_self shq]
        refine iteN (by decide) ?_
        have er := dp_int (hvx.same s10)
        subst er
        have gi : ∀ j : Int, SeqAt.shaped (.int j) = true := fun j => (Gd.int (n := 0)).shaped (by decide)
        refine ⟨_, rfl, _, rfl, _, _, rfl, rfl, .int r, .int ((m : Int) + 2), .int _, .int _, gi _, gi _, _, rfl, ?_⟩
        rw [eqv_int]
        have e2m : ((2 + m : Nat) : Int) = (m : Int) + 2 := by omega
        rw [e2m] at calt
        rcases calt with ⟨er, rfl, efr⟩ | ⟨ner, rfl⟩
        · refine iteY (decide_eq_true er) ?_
          refine ⟨_, rfl, P0.o, CW K, P0.wd, _, _, rfl, I10.wo, T.cl_World, T.na_World_drivers, lw_d, P0.dl, _, ((0 : Nat) : Int), .ref P0.xo, rfl, rfl, SqL.of I10.wl, atI_n (j := 0) rfl, P0.xo, X'.d, _, rfl, s10 _ _ oo, zn (by decide +kernel), L.m, X', by rw [I10.xo]; rfl, I10.dr, fun pf fpf => ⟨(by show 4 ≤ sizeLine; decide), fun qf fqf => ?_⟩⟩
          have s11 := Same.new (o := HO.lst (X'.free.map .int)) (Same.refl _) fpf
          have s12 := Same.new (o := HO.lst [V.int 2, .int 3, .int 4, .int 5]) (Same.refl _) fqf
          have I12 := (I10.same s11).same s12
          have shf : SeqAt.shaped (.list [.int 2, .int 3, .int 4, .int 5]) = true := Gd.list (n := 0) (fun x hx => by
            simp only [List.mem_cons, List.not_mem_nil, or_false] at hx
            rcases hx with rfl | rfl | rfl | rfl <;> exact .int) (by decide)
          have efr : X'.free = [2, 3, 4, 5] := efr
          refine ⟨.list [.int 2, .int 3, .int 4, .int 5], .list [.int 2, .int 3, .int 4, .int 5], .lst (SqL.of (s12 _ _ upd_same)) (by rw [efr]; exact dp_ints [2, 3, 4, 5]), .lst (SqL.of upd_same) (dp_ints [2, 3, 4, 5]), shf, shf, _, rfl, ?_⟩
          rw [eqv_self shf]
          refine iteN (by decide) ?_
          exact ⟨_, _, _, _, _, _, _, _, _, _, _, _, L, M', A', X', .rst, pl, tr, rfl, mono I12, hp', hls⟩
        · refine iteN (by rw [decide_eq_true_eq]; exact ner) ?_
          exact ⟨_, _, _, _, _, _, _, _, _, _, _, _, L, M', A', X', .wait, pl, tr, rfl, mono I10, hp', hls⟩
      | rst =>
        refine iteN (by show ¬ decide (V.str "reset" = V.str "due") = true; decide +kernel) ?_
        refine ⟨_, rfl, rfl, _, rfl, iteN (by show ¬ decide (V.str "reset" = V.str "wait") = true; decide +kernel) ?_⟩
        refine ⟨_, rfl, rfl, _, rfl, iteY (by show decide (V.str "reset" = V.str "reset") = true; decide +kernel) ?_⟩
        obtain ⟨eq, rfl⟩ := nx
        rw [eq] at hvr shq
        refine ⟨_, rfl, _, rfl, (by show 3 ≤ sizeLine; decide), fun q1 fq1 => ?_⟩
        have s10 := Same.new (o := HO.tup [V.str "write", .int (dbell 0 + 1), .int 1]) (Same.refl _) fq1
        have I10 := I9.same s10
        refine ⟨rstD, rstD, hvr.same s10, .tup (SqT.of upd_same) (.cons (.str _) (.cons (.int _) (.cons (.int _) .nil))), shq, shq, _, rfl, ?_⟩
        rw [eqv_self shq]
        refine iteN (by decide) ?_
        exact ⟨_, _, _, _, _, _, _, _, _, _, _, _, L, M', A', X', .rdy 0, pl, tr, rfl, mono I10, hp', hls⟩
      | rdy j =>
        refine iteN (by show ¬ decide (V.str "ready" = V.str "due") = true; decide +kernel) ?_
        refine ⟨_, rfl, rfl, _, rfl, iteN (by show ¬ decide (V.str "ready" = V.str "wait") = true; decide +kernel) ?_⟩
        refine ⟨_, rfl, rfl, _, rfl, iteN (by show ¬ decide (V.str "ready" = V.str "reset") = true; decide +kernel) ?_⟩
        obtain ⟨eq, hj, calt⟩ := nx
        rw [eq] at hvr shq
        have htr : tr = j := hls
        subst htr
        refine ⟨_, rfl, _, _, rfl, rfl, ?_⟩
        refine ⟨_, rfl, _, rfl, (by show 2 ≤ sizeLine; decide), fun q1 fq1 => ?_⟩
        have s10 := Same.new (o := HO.tup [V.str "read", .int (dbell 0 + 2)]) (Same.refl _) fq1
        have I10 := I9.same s10
        refine ⟨rdyD, rdyD, hvr.same s10, .tup (SqT.of upd_same) (.cons (.str _) (.cons (.int _) .nil)), shq, shq, _, rfl, ?_⟩
        rw [eqv_self shq]
        refine iteN (by decide) ?_
        refine ⟨_, rfl, _, _, rfl, rfl, _, rfl, iteN ?_ ?_⟩
        · rw [decide_eq_true_eq]
          omega
        refine ⟨_, rfl, rfl, _, rfl, ?_⟩
        rcases calt with ⟨c1, rfl⟩ | ⟨c1, rfl, an, fl⟩
        · refine iteN ?_ ?_
          · rw [decide_eq_true_eq]
            intro z
            injection z with z
            omega
          exact ⟨_, _, _, _, _, _, _, _, _, _, _, _, L, M', A', X', .rdy (tr + 1), pl, tr + 1, rfl, mono I10, hp', rfl⟩
        · refine iteY ?_ ?_
          · rw [decide_eq_true_eq]
            have : (tr : Int) + 1 = 100 := by omega
            rw [← this]
          obtain ⟨_, _, el⟩ := ph_brk hp'
          refine ⟨_, rfl, P0.o, CW K, P0.wd, _, _, rfl, I10.wo, T.cl_World, T.na_World_drivers, lw_d, P0.dl, _, ((0 : Nat) : Int), .ref P0.xo, rfl, rfl, SqL.of I10.wl, atI_n (j := 0) rfl, P0.xo, X'.d, _, rfl, s10 _ _ oo, zn (by decide +kernel), L.m, X', by rw [I10.xo]; rfl, I10.dr, by omega, fun pr xr H11 fpr epr rr s11 => ?_⟩
          have I11 := I10.same s11
          have lF : (X'.es.filter fun x => x.fi.isSome).length = m := by
            have fl : ((X'.es.map EX.dat).filter fun x => x.fi.isSome).length = m := fl
            rw [List.filter_map, List.length_map] at fl
            exact fl
          have anF : ∀ x ∈ X'.es.filter (fun x => x.fi.isSome), x.an = some ((A.log.length : Int) + 1) := fun x hx => an x.dat (List.mem_map.mpr ⟨x, (List.mem_filter.mp hx).1, rfl⟩)
          have lx := rr.len
          have m3 := hm.m3
          generalize (X'.es.filter fun x => x.fi.isSome) = F at rr lF anF lx
          have nlF : ∀ l : List EX, noLs (l.map rowD) = true := fun l => noLs_map rowD_nl l
          -- what the rows say
          refine ⟨_, rfl, pr, rfl, ⟨_, SqL.of epr⟩, fun DL hDL => ?_⟩
          refine lc_list (K := K) (a := pr) (xs := xr) (fun i H12 => AccL K H11 DL ((F.take i).map rowD) H12) (AccL.start hDL) (fun i H12 _ ⟨_, _, _, s⟩ => SqL.of (s _ _ epr)) ?_ ?_
          · rintro i1 v H12 hi1 ac
            obtain ⟨x, hx, hrow⟩ := rr.get hi1
            obtain ⟨_, _, _, s12⟩ := id ac
            obtain ⟨rt, ri, rv, av, rst, rfl, hrt, hav⟩ := hrow.ts (TSame.same (K := K) s12)
            refine ⟨rfl, ?_⟩
            refine ⟨_, rfl, _, rfl, _, rfl, rt, _, rfl, hrt, (fun z => absurd z.1 (by show ¬ HT.sIx 6 0 (some 2) = 0; decide)), fun _ q2 fq2 => ?_⟩
            rw [List.take_add_one, hx, List.map_append]
            have sq := Same.new (o := HO.tup (cutV [V.int ri, rv, av, optV x.fi, optV x.an, .ref rst] (some 2) (some 5))) (Same.refl _) fq2
            refine ac.put hDL sq (d := rowD x) (.tup (xs := [av, optV x.fi, optV x.an]) (SqT.of upd_same) (.cons (hav.same sq) (.cons (dp_opt _) (.cons (dp_opt _) .nil)))) (nlF _) (rowD_nl x) ?_
            rw [List.length_map, List.length_take]
            omega
          rintro H12 ⟨ls, e12, d12, s12⟩
          rw [lx, List.take_length] at d12
          -- what they must say
          refine ⟨_, rfl, pr, rfl, ⟨_, SqL.of (s12 _ _ epr)⟩, fun DR hDR => ?_⟩
          refine lc_list (K := K) (a := pr) (xs := xr) (fun i H13 => AccL K H12 DR ((F.take i).map rowD) H13) (AccL.start hDR) (fun i H13 _ ⟨_, _, _, s⟩ => SqL.of ((s12.trans s) _ _ epr)) ?_ ?_
          · rintro i1 v H13 hi1 ac
            obtain ⟨x, hx, hrow⟩ := rr.get hi1
            obtain ⟨_, _, _, s13⟩ := id ac
            obtain ⟨rt, ri, rv, av, rst, rfl, hrt, hav⟩ := hrow.ts (TSame.same (K := K) (s12.trans s13))
            refine ⟨rfl, ?_⟩
            refine ⟨(by show 2 ≤ sizeLine; decide), fun q2 f2 => ?_⟩
            have u2 := Same.new (o := HO.tup [V.str "broken", .non]) (Same.refl _) f2
            refine ⟨_, rfl, rt, _, ((3 : Nat) : Int), optV x.fi, rfl, rfl, Same.seqT u2 hrt, atI_n (j := 3) rfl, _, rfl, (by show 3 ≤ sizeLine; decide), fun q3 f3 => ?_⟩
            have u3 := Same.new (o := HO.tup [V.ref q2, optV x.fi, .int ((A.log.length : Int) + 1)]) (Same.refl _) f3
            rw [List.take_add_one, hx, List.map_append]
            refine ac.put hDR (u2.trans u3) (d := rowD x) ?_ (nlF _) (rowD_nl x) ?_
            · unfold rowD
              rw [anF x (List.mem_of_getElem? hx)]
              exact .tup (xs := [V.ref q2, optV x.fi, .int ((A.log.length : Int) + 1)]) (SqT.of upd_same) (.cons (.tup (xs := [V.str "broken", .non]) (SqT.of (u3 _ _ upd_same)) (.cons (.str _) (.cons .non .nil))) (.cons (dp_opt _) (.cons (.int _) .nil)))
            rw [List.length_map, List.length_take]
            omega
          rintro H13 ⟨ls2, e13, d13, s13⟩
          rw [lx, List.take_length] at d13
          have shr : SeqAt.shaped (.list (F.map rowD)) = true := Gd.list (n := 2) (fun x hx => by
            obtain ⟨y, _, rfl⟩ := List.mem_map.mp hx
            exact rowD_gd y) (by decide)
          refine ⟨.list (F.map rowD), .list (F.map rowD), .lst (SqL.of (s13 _ _ e12)) (d12.same s13), .lst (SqL.of e13) d13, shr, shr, _, rfl, ?_⟩
          rw [eqv_self shr]
          refine iteN (by decide) ?_
          refine ⟨_, rfl, pr, xr, rfl, .inl (SqL.of ((s12.trans s13) _ _ epr)), _, rfl, rfl, _, rfl, iteN ?_ ?_⟩
          · have : (xr.length : Int) = (m : Int) := by omega
            rw [this]
            simp
          exact ⟨_, _, _, _, _, _, _, _, _, _, _, _, L, M', A', X', .brk, pl, tr + 1, rfl, mono ((I11.same s12).same s13), hp', trivial⟩
      | brk => exact nx.elim
    · rintro σ H1 ⟨x10, x11, x12, x13, x14, x15, x16, x17, x18, x19, x20, x21, L, M, A, X, st, pl, tr, rfl, I, hp, hls⟩
      exact k _
end
end Rb
namespace Rb
open PySem PySem.Spec PyProof.Rows L2
theorem facts {P : Program} {w : World} {K : PySem.W.Frag} {h : Heap} {mg : Str → Option Value} {f : Addr} (X : K.In h) (G : h.Ns mainGlobals mg) (hfa : mg ("law" : Str) = some (.ref f)) (c : SaysR fa fn ts exs w K) :
    ∃ fd : FuncData, (∀ (s : Shared) (v : Value), BindsTo s fd ⟨[v], []⟩ [("script", v)]) ∧ ∀ base : Heap, K.In base → base.Ns mainGlobals mg → FnOk P w K mg base CX0 12 f fd ["script"] (spLaw K) := by
  have T := top_of X G c
  obtain ⟨fd, F⟩ := T.d_law
  have e := hfa.symm.trans T.g_law
  cases e
  have b := FunD.bindsA (ps := ["script"]) F fun _ _ _ _ _ _ us hl => match us, hl with | [_], _ => rfl
  exact ⟨fd, fun s v => b s [v] rfl, fun base _ _ => ok_law T (tab_FORMS c) F⟩
end Rb
open PySem PySem.W PySem.Calls PyProof.Rows
theorem PySem.Challenge.cw_ringbound_k18_drivers_step_by_step_holds : PySem.Challenge.rw_ringbound_k18_drivers_step_by_step.Holds := by
  w_on; o_law
  refine HandSHeadRun.head_any (r := OpenLaw.row PySem.Challenge.rw_ringbound_k18_drivers_step_by_step) (q := view (OpenLaw.row PySem.Challenge.rw_ringbound_k18_drivers_step_by_step).prog [Rb.lawAt]) (H := Rb.hk) (ob := Rb.ob) (M := 8000) (loose := Rb.loose)
    (d := HandSHeadRun.topDef (OpenLaw.row PySem.Challenge.rw_ringbound_k18_drivers_step_by_step).prog Rb.lawAt) (kwd := []) Rb.ob_eq
    (by kernel_rfl) (fun s => by kernel_rfl) Rb.run (by kernel_rfl) (by kernel_rfl) (by kernel_rfl) (by rfl) (by first | assumption | decide +kernel) (by decide +kernel) ⟨rfl, rfl, rfl, rfl, rfl, by decide +kernel⟩ ?hw ?hc
  case hw => w_witness2
  case hc =>
    refine L2.walk_ofE (l := PySem.Challenge.rw_ringbound_k18_drivers_step_by_step) (n := 63) (k := 12) (x := "script") (CX := L2.CX0) rfl (by decide) (by kernel_rfl) ⟨rfl, by decide, by decide⟩ ?F (fun _ _ _ _ z => z)
    intro w mg fa h Y G hmg0
    obtain ⟨K, KX, c⟩ := Y
    have hmg : mg ("law" : PySem.Str) = some (.ref fa) := by
      have e : (HandSHeadRun.topDef (OpenLaw.row PySem.Challenge.rw_ringbound_k18_drivers_step_by_step).prog Rb.lawAt).name = ("law" : PySem.Str) := by kernel_rfl
      rw [← e]
      exact hmg0
    obtain ⟨fd, hb, hF⟩ := Rb.facts (P := (PySem.Challenge.rw_ringbound_k18_drivers_step_by_step).prog) (w := w) KX G hmg c
    exact ⟨K, fd, Rb.spLaw K, KX, hb, fun H a ns hl _ hS => ⟨a, ns, rfl, hS, hl, fun _ => rfl⟩, hF⟩
