import PyProof.Rows.All
import Wide.All
import OpenK.AllK
import Wide.FinOn
import HandS.ForMost
import HandS.ForExc
import HandS.ExcInit
import HandS.ExcIs
import HandS.IsInst
import HandS.Steps
import HandS.TupMul
import HandS.TupAny
import HandS.SortInts
import HandS.Defaults
import HandS.HeadHook3
import HandS.HeadHook4
import HandS.HeadEnd
import HandS.Head2
import KE.KUnpackStar
import HandS.Zip
import KE.GoesMore
import KE.GoesZip
import KE.KTurns
import HandS.HeadHook2
import PyProof.TypeEq
import HandS.Star
import HandS.Flow
import HandS.Style
import PySem.Challenge.RW_ringbound_k13_requests_on_a_plain_table
set_option Elab.async false
set_option linter.all false
set_option maxRecDepth 100000
set_option maxHeartbeats 0
/-! The layer of this program: rules that the hand layer lacks. -/
namespace Rb
open PySem PySem.Spec PyProof.Rows L2

section
variable {X : Cx} {x m : Str} {C f : Addr} {CX : CXT} {k : Nat} {fd : FuncData} {ps : List Str} {sp : Sp} {ds : List Value} {dvs : List V} {E : XK}
  {e : Expr} {es : List Expr} {t : TA} {p1 p2 pos : Pos} {mc : Value}

/-- what is read of a class: the function that stands under a name -/
structure ClsFn (K : PySem.W.Frag) (C : Addr) (mc : Value) (m : Str) (f : Addr) : Prop where
  rd : PySem.W.readsIn K C mc = true
  ga : PySem.W.specialIn K (.ref C) "__getattribute__" = some (some (.builtin "type.__getattribute__"))
  fn : PySem.W.findCls K (.ref C) mc m = some (.val (.ref f))
  kp : PySem.W.keepIn K (.ref f) = true

/-- Base.m(e, ..): a def called off its class -/
theorem pe_clsfn {pl : Sem Bool} (c : ClsFn X.K C mc m f) (F : FnOk X.prog X.w X.K X.mg X.base CX k f fd ps sp) (hr : Room k X.A)
    (hg : Gl X x) (hm : X.mg x = some (.ref C)) (hb : Binds X.K fd ps ds) (hd : Vals dvs ds) (hx : Passes CX X E) (hP : PA X (e :: es) t)
    (hc : eval (.Call (.Attribute (.Name x p1) m p2) (e :: es) [] pos) X.env = (do
      let ov ← eval (.Name x p1) X.env
      standAt p2.atName
      let (g, first) ← holding [ov] (getMethod ov m pl)
      callWith pos g first (backTo pos (starEach (e :: es) X.env)) (backToKw pos (keywordEach [] X.env))) := by rfl)
    (hs1 : starEach (e :: es) X.env = (false, eval e X.env) :: starEach es X.env := by rfl)
    (hs2 : (backTo pos (starEach es X.env)).any (·.1) = false := by rfl) (hdb : (x == ("__debug__" : Str)) = false := by decide) :
    PE X (.Call (.Attribute (.Name x p1) m p2) (e :: es) [] pos) (tCall sp dvs E t) := by
  refine ⟨fun pins s σ H Q I hw => ?_⟩
  refine PySem.W.methodCall_KW (ld_glob I hg hm ?_ hdb) hc
  refine PySem.W.method_cls I.kIn c.ga ?_
  refine PySem.W.cls_value I.kIn c.rd c.fn rfl ?_
  refine PySem.W.callWith_K (h₀ := X.base) I.ok.mod.kin c.kp ?_ hs1 hs2
  refine thn (hP.run pos pins _ σ H _ (I.tok _) hw) fun us s1 hh => ?_
  obtain ⟨vs, H1, I1, r, q⟩ := hh
  exact ⟨I1.kIn, run_fn F hr hb hd hx I1 r q⟩
end

/-! ### an exception whose __init__ leaves nothing -/
section
variable {X : Cx} {pins : List (Addr × Obj)} {σ : L2.St}
theorem bare_end {H1 : Hp} {hp hp2 h2 : Heap} {g1 g2 : Array GenState} {d1 d2 : Drawn} {t1 t2 : Nat} {os1 os2 : OsState} {a C : Addr}
    (I1 : Inv X pins σ H1 ⟨hp, g1, d1, t1, os1⟩) (ha : hp.objs.size ≤ a) (kk : ∀ b o, hp.get? b = some o → hp2.get? b = some o)
    (un : Un (frs X.stack) [] (upd H1 a (exo a C none)) (upd H1 a (exo a C none)) hp2 h2)
    (hok : HOk X.prog X.w (upd H1 a (exo a C none)) h2) (ho : os2 = os1) (hb : AllBare g2) :
    ∃ (t0 : Addr) (G : Heap), Inv X pins σ H1 ⟨G, g2, d2, t2, os2⟩ ∧ (∀ b o, G.get? b = some o → h2.get? b = some o) ∧
      G.get? a = none ∧ H1 a = none ∧
      h2.get? a = some ({ cls := .ref C, dict := none, data := .fields #[.ref t0, .none, .none, .none, .bool false, .none] } : Obj) := by
  have na : H1 a = none := I1.hok.fresh ha
  have ea : upd H1 a (exo a C none) a = some (exo a C none) := upd_same
  obtain ⟨t0, hoe⟩ := exo_at hok ea
  obtain ⟨G, gin, gout⟩ := restrict h2 fun b => decide (b ≠ a)
  have gk : ∀ b, b ≠ a → G.get? b = h2.get? b := fun b q => gin b (decide_eq_true q)
  have ge : G.get? a = none := gout a (by simp)
  have old : ∀ {b : Addr} {o : Obj}, hp.get? b = some o → b ≠ a := fun z => Nat.ne_of_lt (Nat.lt_of_lt_of_le (Heap.lt_size z) ha)
  have trk : ∀ {b : Addr} {o : HO}, H1 b = some o → b ≠ a := fun {b o} z q => by
    rw [q, na] at z
    cases z
  have U : Un (frs X.stack) [] H1 H1 hp G := by
    constructor
    · intro b o z n q1 q2
      rw [gk b (old z)]
      exact un.keep b o (kk b o z) (by rw [upd_ne (old z)]; exact n) q1 q2
    · intro b o z n q1 q2
      rw [gk b (old z)]
      exact un.slot b o (kk b o z) (by rw [upd_ne (old z)]; exact n) q1 q2
    · intro b o z n q2
      exact n
    · intro b o z q2
      rw [gk b (old z)]
      exact un.there b o (kk b o z) q2
    · intro b xs z
      exact z
    · intro b o u z
      exact z
    · intro b ps z
      exact ⟨#[], by rw [z]; simp⟩
  have ok3 : HOk X.prog X.w H1 G := by
    intro b o z
    have nb := trk z
    have y := hok b o (by rw [upd_ne nb]; exact z)
    refine y.stay (fun c v hc r => ?_) (fun c r => ?_) (fun c xs r => ?_)
    · have nc : c ≠ a := by
        rcases hc with q | q
        · rw [q]
          exact nb
        · exact at_ne ea q exo_own
      rw [gk c nc]
      exact r
    · rw [upd_ne (at_ne ea r exo_own)] at r
      exact r
    · rw [upd_ne (at_ne ea r exo_tup)] at r
      exact r
  have J : Inv X pins σ H1 ⟨G, g2, d2, t2, os2⟩ := I1.call' (ch := []) ho U ok3 hb (fun b z => absurd z (by simp))
  refine ⟨t0, G, J, fun b o z => ?_, ge, na, hoe⟩
  by_cases q : b = a
  · rw [q, ge] at z
    cases z
  · rw [← gk b q]
    exact z

/-- C() where C's __init__ does no more than its base's -/
theorem pmk_bare0 {CX : CXT} {x : Str} {C fI : Addr} {k : Nat} {fd : FuncData} {ps : List Str} {sp : Sp} {pos p : Pos} (T : OexC X.K C)
    (iC : PySem.W.findIn X.K (.ref C) "__init__" = some (some (.ref fI))) (tI : PySem.W.typeIn X.K (.ref fI) = some (.type "function"))
    (F1 : FnOk X.prog X.w X.K X.mg X.base CX k fI fd ps sp) (hr : Room (k + 1) X.A) (hb : L2.Binds X.K fd ps [])
    (hx : Passes CX X (fun _ _ _ => False)) (hg : Gl X x) (hm : X.mg x = some (.ref C)) (hdb : (x == ("__debug__" : Str)) = false := by decide) :
    PMk X (.Call (.Name x p) [] [] pos) (fun _ H Q => (∀ a, H a = none → sp [.ref a] (upd H a (exo a C none)) (fun v H2 => v = .non ∧ H2 = upd H a (exo a C none)) (fun _ _ _ => False)) ∧ Q (.ref C) none H) := by
  intro pins s σ H Q I hw
  obtain ⟨nm, q, N, bs, bm, sn, sub, ab, col, dd, k0, k1, k2, k3, k5, hC, hbm⟩ := T.cls
  refine wpAny_Call_Name_kw (ld_glob I hg hm ?_ hdb)
  refine PySem.W.callWith_K0 I.kIn T.kC ?_
  show wpAny _ _ (call (.ref C) []) _ _ _
  obtain ⟨hp, g, dr, tk, os⟩ := s
  have hsz : hp.objs.size ≤ hp.objs.size + 1 := Nat.le_succ _
  have hn : H (hp.objs.size + 1) = none := I.hok.fresh hsz
  obtain ⟨hw1, hw2⟩ := hw
  have hq := hw1 (hp.objs.size + 1) hn
  have kk : ∀ b o, hp.get? b = some o → ((hp.push (PySem.W.kdv_tup [])).push (PySem.HandSPX.excO C hp.objs.size)).get? b = some o := fun b o z =>
    Heap.get?_push_of_some _ (Heap.get?_push_of_some _ z)
  have hget : ((hp.push (PySem.W.kdv_tup [])).push (PySem.HandSPX.excO C hp.objs.size)).get? (hp.objs.size + 1) = some (PySem.HandSPX.excO C hp.objs.size) := by heap_get
  have I2 := I.laid (t' := tk) (a := hp.objs.size + 1) (o := exo (hp.objs.size + 1) C none) kk hsz (exo_ok hget)
  have r2 : Vals [V.ref (hp.objs.size + 1)] [Value.ref (hp.objs.size + 1)] := .cons rfl .nil
  have lb := hb _ [Value.ref (hp.objs.size + 1)] I2.kIn (F1.len _ _ _ _ hq)
  refine wpAny_call (PySem.HandSPX.call_own F.excBase_ValueError (fun Y => PySem.HandSPX.refsVE_contains Y bm hbm) (I.kIn _ _ hC) (PySem.W.looks_findIn I.kIn iC)
    (fun self => PySem.W.bind_fn I.kIn self tI) (Nat.zero_le _)
    (codeAny_mono (F1.run _ X.stack _ _ ⟨[Value.ref (hp.objs.size + 1)], []⟩ [Value.ref (hp.objs.size + 1)] _ _ (fun _ _ _ => False) (hr.make C [] []) (I2.env0.make C [] []) lb r2 hq)
      fun r s' hq' => ?_))
  cases r with
  | error er => exact hx pins σ _ _ er s' I2 hq'
  | ok fl =>
    cases fl with
    | ret u =>
      obtain ⟨v, H2, os2, bare2, un2, hok2, rv, ev, eH⟩ := hq'
      subst ev
      subst eH
      obtain ⟨h2, g2, d2, t2, os'⟩ := s'
      obtain ⟨t0, G, J, kG, ge, na, hoe⟩ := bare_end (d2 := d2) (t2 := t2) I hsz kk un2 hok2 os2 bare2
      exact ⟨rv, ⟨_, _, _, ⟨G, g2, d2, t2, os'⟩, H, .ref C, none, rfl, J, kG, ge, hoe, ⟨rfl, rfl⟩, rfl, rfl, na, rfl, bare2, raises_own T.exC T.tyC, hw2⟩⟩
    | next => exact False.elim hq'
    | brk => exact False.elim hq'
    | cont => exact False.elim hq'
end
/-! ### defs by what they keep -/
/-- the def at f keeps sp; CX: what it may let out -/
structure FnC (P : Program) (w : World) (K : PySem.W.Frag) (mg : Str → Option Value) (base : Heap) (CX : CXT) (k : Nat) (f : Addr) (sp : Sp) : Prop where
  ex : ∃ (fd : FuncData) (ps : List Str), FnOk P w K mg base CX k f fd ps sp ∧ L2.Binds K fd ps [] ∧ PySem.W.keepIn K (.ref f) = true
section
variable {P : Program} {w : World} {K : PySem.W.Frag} {mg : Str → Option Value} {base : Heap}
theorem FnC.imp {CX : CXT} {k : Nat} {f : Addr} {sp sp' : Sp} (c : FnC P w K mg base CX k f sp) (h : ∀ vs H Q E, sp' vs H Q E → sp vs H Q E) : FnC P w K mg base CX k f sp' := by
  obtain ⟨fd, ps, F, b, kp⟩ := c.ex
  exact ⟨fd, ps, F.imp h, b, kp⟩
theorem fnc {CX : CXT} {x qual : Str} {params : Arguments} {body : List Stmt} {scope : Scope} {kws : List (Str × V)} {f : Addr} {N ps : List Str} {k : Nat} {sp : Sp}
    (F : ∃ fd, FunD K x qual params body scope [] kws f fd) (S : FnScope N ps scope)
    (bd : ∀ (kV doc pm : Value) (an : Option Addr) (cdv ct : Value) (us : List Value), us.length = ps.length → bindArgs (PySem.W.fnOf x qual params body scope .none kV doc pm an cdv ct) ⟨us, []⟩ = pure (ps.zip us))
    (len : ∀ vs H Q E, sp vs H Q E → vs.length = ps.length)
    (hb : ∀ (cdv : Value) (A : Around) (outer : List Env) (s : Shared) (H : Hp) (vs : List V) (Q : VK) (E : XK), Room k (A.deeper (envOfC qual scope s.heap.objs.size f cdv)) → sp vs H Q E →
      ∃ t, PSs (cxOf CX P w K mg base N qual scope f cdv A outer s H E) body t ∧ t { nx := fun _ H' => Q .non H', rt := Q } (start N vs) H) : FnC P w K mg base CX (k + 1) f sp := by
  obtain ⟨fd, F⟩ := F
  exact ⟨fd, ps, F.ok S len hb, F.bindsN bd, F.kp⟩
/-- a def that lets nothing out -/
theorem fnc0 {x qual : Str} {params : Arguments} {body : List Stmt} {scope : Scope} {kws : List (Str × V)} {f : Addr} {N ps : List Str} {k : Nat} {sp : Sp}
    (F : ∃ fd, FunD K x qual params body scope [] kws f fd) (S : FnScope N ps scope)
    (bd : ∀ (kV doc pm : Value) (an : Option Addr) (cdv ct : Value) (us : List Value), us.length = ps.length → bindArgs (PySem.W.fnOf x qual params body scope .none kV doc pm an cdv ct) ⟨us, []⟩ = pure (ps.zip us))
    (len : ∀ vs H Q E, sp vs H Q E → vs.length = ps.length)
    (hb : ∀ (cdv : Value) (A : Around) (outer : List Env) (s : Shared) (H : Hp) (vs : List V) (Q : VK) (E : XK), Room k (A.deeper (envOfC qual scope s.heap.objs.size f cdv)) → sp vs H Q E →
      ∃ t, PSs (cxOf CX0 P w K mg base N qual scope f cdv A outer s H E).nox body t ∧ t { nx := fun _ H' => Q .non H', rt := Q } (start N vs) H) : FnC P w K mg base CX0 (k + 1) f sp :=
  fnc F S bd len fun cdv A outer s H vs Q E hr h => by
    obtain ⟨t, h1, h2⟩ := hb cdv A outer s H vs Q E hr h
    exact ⟨t, h1.nox, h2⟩
end
section
variable {X : Cx} {x m : Str} {C f : Addr} {CX : CXT} {k j : Nat} {sp : Sp} {E : XK} {ES : L2.St → XK} {e o : Expr} {es : List Expr} {t : TA} {ta : TE} {p apos pos : Pos}
theorem pe_f (c : FnC X.prog X.w X.K X.mg X.base CX k f sp) (hr : Room j X.A) (hk : k ≤ j) (hg : Gl X x) (hm : X.mg x = some (.ref f)) (hx : Passes CX X E) (ha : PA X (e :: es) t)
    (hdb : (x == ("__debug__" : Str)) = false := by decide) (h1 : starEach (e :: es) X.env = (false, eval e X.env) :: starEach es X.env := by rfl) (h2 : (backTo pos (starEach es X.env)).any (·.1) = false := by rfl) :
    PE X (.Call (.Name x p) (e :: es) [] pos) (tCall sp [] E t) := by
  obtain ⟨fd, ps, F, b, kp⟩ := c.ex
  exact pe_call F (hr.mono hk) hg hm kp b .nil hx ha hdb h1 h2
theorem pe_f0 (c : FnC X.prog X.w X.K X.mg X.base CX k f sp) (hr : Room j X.A) (hk : k ≤ j) (hg : Gl X x) (hm : X.mg x = some (.ref f)) (hx : Passes CX X E)
    (hdb : (x == ("__debug__" : Str)) = false := by decide) : PE X (.Call (.Name x p) [] [] pos) (tCall sp [] E tNil) := by
  obtain ⟨fd, ps, F, b, kp⟩ := c.ex
  exact pe_call0 F (hr.mono hk) hg hm kp b .nil hx hdb
/-- .. where what is raised is wished for at the slots -/
theorem pe_fS (c : FnC X.prog X.w X.K X.mg X.base CX k f sp) (hr : Room j X.A) (hk : k ≤ j) (hg : Gl X x) (hm : X.mg x = some (.ref f)) (hx : ∀ σ, PassesAt CX X σ (ES σ)) (ha : PA X (e :: es) t)
    (hdb : (x == ("__debug__" : Str)) = false := by decide) (h1 : starEach (e :: es) X.env = (false, eval e X.env) :: starEach es X.env := by rfl) (h2 : (backTo pos (starEach es X.env)).any (·.1) = false := by rfl) :
    PE X (.Call (.Name x p) (e :: es) [] pos) (tCallS sp ES t) := by
  obtain ⟨fd, ps, F, b, kp⟩ := c.ex
  exact pe_callS F (hr.mono hk) hg hm kp b hx ha hdb h1 h2
theorem pe_m {pl : Sem Bool} (c : FnC X.prog X.w X.K X.mg X.base CX k f sp) (hr : Room j X.A) (hk : k ≤ j) (hc : Cls X.K C) (hm : Meth X.K C m f) (hx : Passes CX X E) (ho : PE X o ta) (ha : PA X (e :: es) t)
    (h1 : starEach (e :: es) X.env = (false, eval e X.env) :: starEach es X.env := by rfl) (h2 : (backTo pos (starEach es X.env)).any (·.1) = false := by rfl)
    (h3 : eval (.Call (.Attribute o m apos) (e :: es) [] pos) X.env = (do
      let ov ← eval o X.env
      standAt apos.atName
      let (g, first) ← holding [ov] (getMethod ov m pl)
      callWith pos g first (backTo pos (starEach (e :: es) X.env)) (backToKw pos (keywordEach [] X.env))) := by rfl) :
    PE X (.Call (.Attribute o m apos) (e :: es) [] pos) (tMeth C m sp [] E ta t) := by
  obtain ⟨fd, ps, F, b, kp⟩ := c.ex
  exact pe_meth (pl := pl) ho hc hm F (hr.mono hk) b .nil hx ha h1 h2 h3
theorem pe_m0 {pl : Sem Bool} (c : FnC X.prog X.w X.K X.mg X.base CX k f sp) (hr : Room j X.A) (hk : k ≤ j) (hc : Cls X.K C) (hm : Meth X.K C m f) (hx : Passes CX X E) (ho : PE X o ta)
    (h3 : eval (.Call (.Attribute o m apos) [] [] pos) X.env = (do
      let ov ← eval o X.env
      standAt apos.atName
      let (g, first) ← holding [ov] (getMethod ov m pl)
      callWith pos g first (backTo pos (starEach [] X.env)) (backToKw pos (keywordEach [] X.env))) := by rfl) :
    PE X (.Call (.Attribute o m apos) [] [] pos) (tMeth C m sp [] E ta tNil) := by
  obtain ⟨fd, ps, F, b, kp⟩ := c.ex
  exact pe_meth0 (pl := pl) ho hc hm F (hr.mono hk) b .nil hx h3
theorem pe_k0 (c : FnC X.prog X.w X.K X.mg X.base CX k f sp) (hr : Room j X.A) (hk : k + 1 ≤ j) (hg : Gl X x) (hm : X.mg x = some (.ref C)) (M : Mk X.K C f) (hx : Passes CX X E) (hdb : (x == ("__debug__" : Str)) = false := by decide) :
    PE X (.Call (.Name x p) [] [] pos) (tMake C sp [] E tNil) := by
  obtain ⟨fd, ps, F, b, kp⟩ := c.ex
  exact pe_make0 M F (hr.mono hk) hg hm b .nil hx hdb
theorem pe_k (c : FnC X.prog X.w X.K X.mg X.base CX k f sp) (hr : Room j X.A) (hk : k + 1 ≤ j) (hg : Gl X x) (hm : X.mg x = some (.ref C)) (M : Mk X.K C f) (hx : Passes CX X E) (ha : PA X (e :: es) t)
    (hdb : (x == ("__debug__" : Str)) = false := by decide) (h1 : starEach (e :: es) X.env = (false, eval e X.env) :: starEach es X.env := by rfl) (h2 : (backTo pos (starEach es X.env)).any (·.1) = false := by rfl) :
    PE X (.Call (.Name x p) (e :: es) [] pos) (tMake C sp [] E t) := by
  obtain ⟨fd, ps, F, b, kp⟩ := c.ex
  exact pe_make M F (hr.mono hk) hg hm b .nil hx ha hdb h1 h2
/-- o.m(e, ..) where what is raised is wished for at the slots -/
def tMethAt (C : Addr) (m : Str) (sp : Sp) (ES : L2.St → XK) (ta : TE) (t : TA) : TE := fun σ H Q => ta σ H fun x H1 => ∃ a dx fs, x = .ref a ∧ H1 a = some (.ins C dx fs) ∧ fs.lookup m = none ∧ t σ H1 fun vs H2 => sp (x :: vs) H2 Q (ES σ)
theorem pe_mS {pl : Sem Bool} (c : FnC X.prog X.w X.K X.mg X.base CX k f sp) (hr : Room j X.A) (hk : k ≤ j) (hc : Cls X.K C) (hm : Meth X.K C m f) (hx : ∀ σ, PassesAt CX X σ (ES σ)) (ho : PE X o ta) (hA : PA X (e :: es) t)
    (h1 : starEach (e :: es) X.env = (false, eval e X.env) :: starEach es X.env := by rfl) (h2 : (backTo pos (starEach es X.env)).any (·.1) = false := by rfl)
    (h3 : eval (.Call (.Attribute o m apos) (e :: es) [] pos) X.env = (do
      let ov ← eval o X.env
      standAt apos.atName
      let (g, first) ← holding [ov] (getMethod ov m pl)
      callWith pos g first (backTo pos (starEach (e :: es) X.env)) (backToKw pos (keywordEach [] X.env))) := by rfl) :
    PE X (.Call (.Attribute o m apos) (e :: es) [] pos) (tMethAt C m sp ES ta t) := by
  obtain ⟨fd, ps, F, b, kp⟩ := c.ex
  refine ⟨fun pins s σ H Q I hw => ?_⟩
  refine PySem.W.methodCall_KW (pl := pl) (thn (ho.run pins s σ H _ I hw) fun u s1 hh => ?_) h3
  obtain ⟨y, H1, I1, ry, a, dx, fs, ey, ea, l, q⟩ := hh
  subst ey
  obtain rfl : u = Value.ref a := ry
  refine getmeth_ok I1 ea hc hm l ?_
  refine PySem.W.callWith_K (first := [.ref a]) (h₀ := X.base) I.ok.mod.kin hm.kp (thn (hA.run pos pins s1 σ H1 _ I1 q) fun us s2 hh => ?_) h1 h2
  obtain ⟨vs, H2, I2, r, q2⟩ := hh
  exact ⟨I2.kIn, run_fnS (us := .ref a :: us) (vs := .ref a :: vs) F (hr.mono hk) b (hx σ) I2 (.cons rfl r) q2⟩
/-- isinstance(e, C) of a caught exception, whatever its class -/
theorem pe_isX {a D : Addr} {oe : Obj} {pn : List (Addr × Obj)} {cls : Value} {d : Option Addr} (CD : ExcC X.K D) (hz : Zc cls d oe) (hf : ∃ vs, oe.data = .fields vs)
    (hg : Gl (X.suite a ((a, oe) :: pn)) "isinstance") (hm : X.mg "isinstance" = none) (hv : bootBuiltins "isinstance" = some (.builtin "isinstance")) (ha : PA (X.suite a ((a, oe) :: pn)) (e :: es) t)
    (h1 : starEach (e :: es) (X.suite a ((a, oe) :: pn)).env = (false, eval e (X.suite a ((a, oe) :: pn)).env) :: starEach es (X.suite a ((a, oe) :: pn)).env := by rfl) (h2 : (backTo pos (starEach es (X.suite a ((a, oe) :: pn)).env)).any (·.1) = false := by rfl) :
    PE (X.suite a ((a, oe) :: pn)) (.Call (.Name "isinstance" p) (e :: es) [] pos) (fun σ H Q => cls = .ref D ∧ d = none ∧ tCB (rIsE X.K D a) t σ H Q) := by
  refine ⟨fun pins s σ H Q I hw => ?_⟩
  obtain ⟨rfl, rfl, hw⟩ := hw
  exact (pe_callB (call_isE CD hz hf) hg hm hv ha (he := h1) (hpl := h2)).run pins s σ H Q I hw
end

/-! ### facts of the top beyond those of the hooks -/
/-- an exception class whose __init__ is its own -/
def oexB (K : PySem.W.Frag) (C : Addr) : Bool := match K.lookup C with
  | some ⟨.type t, _, .cls cd, sl⟩ => decide (t = "type") && (match cd.mro, sl.toList with
    | .ref D :: bm, [_, _, _, _, some (.builtin n), _] => decide (D = C) && (decide (n = "ValueError.__new__") && (!cd.hasDel && (cd.hasDict && PySem.HandSPX.refsVE bm)))
    | _, _ => false)
  | _ => false
theorem and2 {a b : Bool} (h : (a && b) = true) : a = true ∧ b = true := Bool.and_eq_true_iff.mp h
theorem oexB_ok {K : PySem.W.Frag} {C : Addr} (h : oexB K C = true) :
    ∃ nm q N bs bm sn sub ab col dd k0 k1 k2 k3 k5, K.lookup C = some (excClassObj nm q C N bs bm true sn sub ab col dd k0 k1 k2 k3 k5 "ValueError.__new__") ∧ PySem.HandSPX.refsVE bm = true := by
  unfold oexB at h
  split at h
  · rename_i t dd cd sl hl
    obtain ⟨h0, h⟩ := and2 h
    split at h
    · rename_i D bm k0 k1 k2 k3 n k5 e1 e2
      obtain ⟨h1, h⟩ := and2 h
      obtain ⟨h2, h⟩ := and2 h
      obtain ⟨h3, h⟩ := and2 h
      obtain ⟨h4, h5⟩ := and2 h
      have q0 : t = "type" := of_decide_eq_true h0
      have q1 : D = C := of_decide_eq_true h1
      have q2 : n = "ValueError.__new__" := of_decide_eq_true h2
      subst q0 q1 q2
      obtain ⟨nm, bs, mro, ns, qn, hd, sn, sub, ab, col, dl⟩ := cd
      dsimp only at e1 h3 h4
      subst e1
      subst h4
      have h3' : dl = false := by
        cases dl
        · rfl
        · cases h3
      subst h3'
      obtain ⟨l⟩ := sl
      have e3 : l = [k0, k1, k2, k3, some (.builtin "ValueError.__new__"), k5] := e2
      subst e3
      exact ⟨nm, qn, ns, bs, bm, sn, sub, ab, col, dd, k0, k1, k2, k3, k5, hl, h5⟩
    · cases h
  · cases h
inductive Ex where
  | oex (x : Str) | ity (x m : Str) | clf (x m : Str) | exi (x : Str) | kit (x y : Str) (b : Bool) | vei | tup (x : Str) (vs : List He.Dv) | fact (p : PySem.W.Frag → Bool)
def Ex.ok (K : PySem.W.Frag) : Ex → Bool
  | .oex x => oexB K (He.ga K x) && (He.eqO (PySem.W.findIn K (.ref (He.ga K x)) "__setattr__") (some (some (.builtin "object.__setattr__"))) &&
      (decide (PySem.W.subIn K (.ref (He.ga K x)) (.type "BaseException") = some true) && (decide (PySem.W.typeIn K (.ref (He.ga K x)) = some (.type "type")) && PySem.W.keepIn K (.ref (He.ga K x)))))
  | .ity x m => He.eqO (PySem.W.findIn K (.ref (He.ga K x)) m) (some (some (.ref (He.ma K (He.ga K x) m)))) && decide (PySem.W.typeIn K (.ref (He.ma K (He.ga K x) m)) = some (.type "function"))
  | .clf x m => PySem.W.readsIn K (He.ga K x) (.type "type") && (He.eqO (PySem.W.specialIn K (.ref (He.ga K x)) "__getattribute__") (some (some (.builtin "type.__getattribute__"))) &&
      ((match PySem.W.findCls K (.ref (He.ga K x)) (.type "type") m with | some (.val (.ref f)) => decide (f = He.ma K (He.ga K x) m) | _ => false) && PySem.W.keepIn K (.ref (He.ma K (He.ga K x) m))))
  | .exi x => He.eqO (PySem.W.findIn K (.ref (He.ga K x)) "__getattribute__") (some (some (.builtin "BaseException.__getattribute__"))) && (He.eqO (PySem.W.findIn K (.ref (He.ga K x)) "__getattr__") (some none) &&
      (decide (PySem.W.subIn K (.ref (He.ga K x)) (.type "BaseException") = some true) && (PySem.W.hasDictIn K (He.ga K x) && (He.eqO (PySem.W.findIn K (.ref (He.ga K x)) "__class__") (some (some (.builtin "object.__class__"))) &&
      (He.eqO (PySem.W.specialIn K (.builtin "object.__class__") "__get__") (some (some (.builtin "getset_descriptor.__get__"))) && (decide (PySem.W.takesIn K (.builtin "object.__class__") = some true) && decide (PySem.W.mroIn K (He.ga K x) (.type "object") = some true)))))))
  | .kit x y b => decide (PySem.W.kitOne K (.ref (He.ga K x)) (.ref (He.ga K y)) = some b)
  | .vei => (match PySem.W.findCls K (.type "ValueError") (.type "type") "__init__" with | some (.val (.builtin n)) => decide (n = "ValueError.__init__") | _ => false)
  | .tup x vs => He.tupB K x vs
  | .fact p => p K
section
variable {K : PySem.W.Frag} {x y m : Str} {b : Bool}
theorem oex_ok (c : (Ex.oex x).ok K = true) : OexC K (He.ga K x) := by
  obtain ⟨c1, c⟩ := and2 c
  obtain ⟨c2, c⟩ := and2 c
  obtain ⟨c3, c⟩ := and2 c
  obtain ⟨c4, c5⟩ := and2 c
  exact ⟨oexB_ok c1, He.eqO_ok c2, of_decide_eq_true c3, of_decide_eq_true c4, c5⟩
theorem ity_ok (c : (Ex.ity x m).ok K = true) : PySem.W.findIn K (.ref (He.ga K x)) m = some (some (.ref (He.ma K (He.ga K x) m))) ∧ PySem.W.typeIn K (.ref (He.ma K (He.ga K x) m)) = some (.type "function") := by
  obtain ⟨c1, c2⟩ := and2 c
  exact ⟨He.eqO_ok c1, of_decide_eq_true c2⟩
theorem clf_ok (c : (Ex.clf x m).ok K = true) : ClsFn K (He.ga K x) (.type "type") m (He.ma K (He.ga K x) m) := by
  obtain ⟨c1, c⟩ := and2 c
  obtain ⟨c2, c⟩ := and2 c
  obtain ⟨c3, c4⟩ := and2 c
  refine ⟨c1, He.eqO_ok c2, ?_, c4⟩
  split at c3
  · rename_i f hf
    rw [hf, of_decide_eq_true c3]
  · cases c3
theorem exi_ok (c : (Ex.exi x).ok K = true) : ExcC K (He.ga K x) := by
  obtain ⟨c1, c⟩ := and2 c
  obtain ⟨c2, c⟩ := and2 c
  obtain ⟨c3, c⟩ := and2 c
  obtain ⟨c4, c⟩ := and2 c
  obtain ⟨c5, c⟩ := and2 c
  obtain ⟨c6, c⟩ := and2 c
  obtain ⟨c7, c8⟩ := and2 c
  exact ⟨He.eqO_ok c1, He.eqO_ok c2, of_decide_eq_true c3, c4, He.eqO_ok c5, He.eqO_ok c6, of_decide_eq_true c7, of_decide_eq_true c8⟩
theorem kit_ok (c : (Ex.kit x y b).ok K = true) : PySem.W.kitOne K (.ref (He.ga K x)) (.ref (He.ga K y)) = some b := of_decide_eq_true c
theorem vei_ok (c : (Ex.vei).ok K = true) : PySem.W.findCls K (.type "ValueError") (.type "type") "__init__" = some (.val (.builtin "ValueError.__init__")) := by
  have c' : (match PySem.W.findCls K (.type "ValueError") (.type "type") "__init__" with | some (.val (.builtin n)) => decide (n = "ValueError.__init__") | _ => false) = true := c
  split at c'
  · rename_i n hn
    rw [hn, of_decide_eq_true c']
  · cases c'
theorem tup_ok {vs : List He.Dv} (c : (Ex.tup x vs).ok K = true) (H : Hp) : SqT K H (He.ga K x) (vs.map (He.Dv.v K)) := He.tupB_ok c H
end
/-- a const of the module, an int -/
theorem int_at {K : PySem.W.Frag} {h : Heap} {mg : Str → Option Value} {x : Str} {i : Int} (X : K.In h) (G : h.Ns mainGlobals mg) (c : (He.Fa.int x i).ok K = true) : ∃ u, mg x = some u ∧ RelV (.int i) u := by
  obtain ⟨t, e⟩ := He.int_ok X G c
  exact ⟨_, e, t, rfl⟩

section
variable {X : Cx} {x m : Str} {C f : Addr} {CX : CXT} {k j : Nat} {sp : Sp} {E : XK} {e : Expr} {es : List Expr} {t : TA} {p p1 p2 pos : Pos} {mc : Value}
theorem pe_cls {pl : Sem Bool} (c : ClsFn X.K C mc m f) (F : FnC X.prog X.w X.K X.mg X.base CX k f sp) (hr : Room j X.A) (hk : k ≤ j)
    (hg : Gl X x) (hm : X.mg x = some (.ref C)) (hx : Passes CX X E) (hP : PA X (e :: es) t)
    (hc : eval (.Call (.Attribute (.Name x p1) m p2) (e :: es) [] pos) X.env = (do
      let ov ← eval (.Name x p1) X.env
      standAt p2.atName
      let (g, first) ← holding [ov] (getMethod ov m pl)
      callWith pos g first (backTo pos (starEach (e :: es) X.env)) (backToKw pos (keywordEach [] X.env))) := by rfl)
    (hs1 : starEach (e :: es) X.env = (false, eval e X.env) :: starEach es X.env := by rfl)
    (hs2 : (backTo pos (starEach es X.env)).any (·.1) = false := by rfl) (hdb : (x == ("__debug__" : Str)) = false := by decide) :
    PE X (.Call (.Attribute (.Name x p1) m p2) (e :: es) [] pos) (tCall sp [] E t) := by
  obtain ⟨fd, ps, F, b, kp⟩ := F.ex
  exact pe_clsfn (pl := pl) c F (hr.mono hk) hg hm b .nil hx hP hc hs1 hs2 hdb
theorem pmk_bare (T : OexC X.K C) (i : PySem.W.findIn X.K (.ref C) "__init__" = some (some (.ref f))) (ti : PySem.W.typeIn X.K (.ref f) = some (.type "function"))
    (F : FnC X.prog X.w X.K X.mg X.base CX k f sp) (hr : Room j X.A) (hk : k + 1 ≤ j) (hx : Passes CX X (fun _ _ _ => False)) (hg : Gl X x) (hm : X.mg x = some (.ref C)) (hdb : (x == ("__debug__" : Str)) = false := by decide) :
    PMk X (.Call (.Name x p) [] [] pos) (fun _ H Q => (∀ a, H a = none → sp [.ref a] (upd H a (exo a C none)) (fun v H2 => v = .non ∧ H2 = upd H a (exo a C none)) (fun _ _ _ => False)) ∧ Q (.ref C) none H) := by
  obtain ⟨fd, ps, F, b, kp⟩ := F.ex
  exact pmk_bare0 T i ti F (hr.mono hk) b hx hg hm hdb
end

/-! ### the head's facts, the statics among them -/
def asR (g : Addr → Option Obj) : Nat → List Addr
  | 0 => [mainGlobals, cStatics]
  | n + 1 => He.growD g (asR g n)
abbrev AlR : Type := He.AlT × Bool
abbrev frR (n : Nat) (g : Addr → Option Obj) : PySem.W.Frag := He.frG g (asR g n)
def obsR (n : Nat) (fa : List He.Fa) (fn : List He.DefD) (ts : List He.Tab) (ex : List Ex) (g : Addr → Option Obj) : AlR := (He.obsT fa fn ts (frR n g), ex.all fun f => f.ok (frR n g))
structure SaysR (fa : List He.Fa) (fn : List He.DefD) (ts : List He.Tab) (ex : List Ex) (w : World) (K : PySem.W.Frag) : Prop where
  t : He.SaysT fa fn ts w K
  more : (ex.all fun f => f.ok K) = true
def hookR (n : Nat) (fa : List He.Fa) (fn : List He.DefD) (ts : List He.Tab) (ex : List Ex) : PySem.W.Hook where
  α := AlR
  obs := fun s => obsR n fa fn ts ex s.heap.get?
  val := fun w => (He.valT fn ts w, true)
  says := fun w h => ∃ K : PySem.W.Frag, K.In h ∧ SaysR fa fn ts ex w K
  of := fun _ _ e => ⟨_, He.frG_in, congrArg (fun z : AlR => z.1) e, congrArg (fun z : AlR => z.2) e⟩
  keeps := fun _ _ _ ⟨K, hK, c⟩ k => ⟨K, PySem.W.Frag.In.keeps hK k, c⟩
theorem obsR_eq {n : Nat} {fa : List He.Fa} {fn : List He.DefD} {ts : List He.Tab} {ex : List Ex} {g : Addr → Option Obj} {s : Shared} (h : ∀ a, g a = s.heap.get? a) : obsR n fa fn ts ex g = (hookR n fa fn ts ex).obs s := by
  have e : g = s.heap.get? := funext h
  rw [e]
  rfl
theorem ex_at {fa : List He.Fa} {fn : List He.DefD} {ts : List He.Tab} {ex : List Ex} {w : World} {K : PySem.W.Frag} (c : SaysR fa fn ts ex w K) (i : Nat) {f : Ex} (e : ex[i]? = some f) : f.ok K = true :=
  List.all_eq_true.mp c.more f (List.mem_of_getElem? e)

section
variable {X : Cx}
/-- a const of the module -/
theorem pe_gc {x : Str} {v : V} {pos : Pos} (hg : Gl X x) (h : ∃ u, X.mg x = some u ∧ RelV v u) (hdb : (x == ("__debug__" : Str)) = false := by decide) : PE X (.Name x pos) (tC v) := by
  obtain ⟨u, hm, r⟩ := h
  exact pe_glob hg hm r hdb
end

section
variable {X : Cx} {K : PySem.W.Frag}
/-- a field, the written part by name (within a comprehension's block) -/
theorem pe_fldK {e : Expr} {f : Str} {pos : Pos} {ta : TE} (hK : X.K = K) (he : PE X e ta) (hb : attributeBase e f X.env (eval e X.env) = eval e X.env) : PE X (.Attribute e f pos) (tFld K ta f) := by
  subst hK
  exact pe_fld he hb
end

/-! ### what is read without a change of the heap -/
section
variable {σ : L2.St} {H : Hp} {ta tb tc : TE} {i j l : Int} {a b : Bool} {K : PySem.W.Frag}
theorem val_orV (h1 : Val ta σ H (.bl a)) (h2 : Val tb σ H (.bl b)) : Val (tOrV ta tb) σ H (.bl (a || b)) := fun Q q => by
  refine h1 _ ⟨a, rfl, ?_⟩
  cases a
  · exact h2 Q q
  · exact q
theorem val_andV (h1 : Val ta σ H (.bl a)) (h2 : Val tb σ H (.bl b)) : Val (tAndV ta tb) σ H (.bl (a && b)) := fun Q q => by
  refine h1 _ ⟨a, rfl, ?_⟩
  cases a
  · exact q
  · exact h2 Q q
theorem val_i0 {g : Int → Int → V} (h1 : Val ta σ H (.int i)) (h2 : Val tb σ H (.int j)) : Val (tOp (rI0 g) ta tb) σ H (g i j) := fun Q q =>
  h1 _ (h2 _ ⟨i, j, rfl, rfl, q⟩)
theorem val_chain {p q : Int → Int → Bool} (h1 : Val ta σ H (.int i)) (h2 : Val tb σ H (.int j)) (h3 : Val tc σ H (.int l)) :
    Val (tChain (rI0 fun i j => .bl (p i j)) (rI0 fun i j => .bl (q i j)) ta tb tc) σ H (.bl (p i j && q j l)) := fun Q k => by
  refine h1 _ (h2 _ ⟨i, j, rfl, rfl, p i j, rfl, ?_⟩)
  cases e : p i j with
  | false =>
    rw [e] at k
    exact k
  | true =>
    rw [e] at k
    exact h3 _ ⟨j, l, rfl, rfl, k⟩
theorem ne_same {x y : V} {d e : PyData} {Q : Bool → Hp → Prop} (hx : Dp K H x d) (hy : Dp K H y e) (sx : SeqAt.shaped d = true) (sy : SeqAt.shaped e = true) (he : PyData.eqv d e = true) (k : Q false H) :
    rNeD K x y H (fun z H' => ∃ c, z = .bl c ∧ Q c H') := ⟨d, e, hx, hy, sx, sy, _, rfl, by
  rw [he]
  exact k⟩
theorem eq_same {x y : V} {d e : PyData} {Q : VK} (hx : Dp K H x d) (hy : Dp K H y e) (sx : SeqAt.shaped d = true) (sy : SeqAt.shaped e = true) (he : PyData.eqv d e = true) (k : Q (.bl true) H) :
    rEqD K x y H Q := ⟨d, e, hx, hy, sx, sy, by
  rw [he]
  exact k⟩
end

/-- the law's def: its function object is told -/
theorem fnk0 {P : Program} {w : World} {K : PySem.W.Frag} {mg : Str → Option Value} {base : Heap} {x qual : Str} {params : Arguments} {body : List Stmt} {scope : Scope} {kws : List (Str × V)} {f : Addr} {fd : FuncData} {N ps : List Str} {k : Nat} {sp : Sp}
    (F : FunD K x qual params body scope [] kws f fd) (S : FnScope N ps scope) (len : ∀ vs H Q E, sp vs H Q E → vs.length = ps.length)
    (hb : ∀ (cdv : Value) (A : Around) (outer : List Env) (s : Shared) (H : Hp) (vs : List V) (Q : VK) (E : XK), Room k (A.deeper (envOfC qual scope s.heap.objs.size f cdv)) → sp vs H Q E →
      ∃ t, PSs (cxOf CX0 P w K mg base N qual scope f cdv A outer s H E).nox body t ∧ t { nx := fun _ H' => Q .non H', rt := Q } (start N vs) H) : FnOk P w K mg base CX0 (k + 1) f fd ps sp :=
  F.ok S len fun cdv A outer s H vs Q E hr h => by
    obtain ⟨t, h1, h2⟩ := hb cdv A outer s H vs Q E hr h
    exact ⟨t, h1.nox, h2⟩
end Rb
/-! Objects by their fields; a memory as it lies in the heap. -/
namespace Rb
open PySem PySem.Spec PyProof.Rows L2
/-! ### fields by names -/
def fix (f : Str) : List Str → Option Nat
  | [] => none
  | n :: r => if f = n then some 0 else (fix f r).map (· + 1)
theorem zl {f : Str} {v : V} : ∀ {ns : List Str} {vs : List V} {i : Nat}, fix f ns = some i → vs[i]? = some v → (List.zip ns vs).lookup f = some v
  | [], _, _, h, _ => by cases h
  | n :: r, [], i, h, hv => by simp at hv
  | n :: r, x :: vs, i, h, hv => by
    unfold fix at h
    by_cases e : f = n
    · rw [if_pos e] at h
      cases h
      subst e
      show List.lookup f ((f, x) :: List.zip r vs) = some v
      simp at hv
      rw [List.lookup_cons_self, hv]
    · rw [if_neg e] at h
      cases q : fix f r with
      | none =>
        rw [q] at h
        cases h
      | some j =>
        rw [q] at h
        cases h
        show List.lookup f ((n, x) :: List.zip r vs) = some v
        have e' : (f == n) = false := by simpa using e
        rw [List.lookup_cons, e']
        exact zl q (by simpa using hv)
theorem zn {f : Str} : ∀ {ns : List Str} {vs : List V}, fix f ns = none → (List.zip ns vs).lookup f = none
  | [], _, _ => rfl
  | n :: r, [], _ => rfl
  | n :: r, x :: vs, h => by
    unfold fix at h
    by_cases e : f = n
    · rw [if_pos e] at h
      cases h
    · rw [if_neg e] at h
      cases q : fix f r with
      | some j =>
        rw [q] at h
        cases h
      | none =>
        show List.lookup f ((n, x) :: List.zip r vs) = none
        have e' : (f == n) = false := by simpa using e
        rw [List.lookup_cons, e']
        exact zn q
theorem zp {f : Str} {v : V} : ∀ {ns : List Str} {vs : List V} {i : Nat}, fix f ns = some i → ns.length = vs.length → putF f v (List.zip ns vs) = List.zip ns (vs.set i v)
  | [], _, _, h, _ => by cases h
  | n :: r, [], i, h, hl => by cases hl
  | n :: r, x :: vs, i, h, hl => by
    unfold fix at h
    by_cases e : f = n
    · rw [if_pos e] at h
      cases h
      subst e
      show (if f = f then (f, v) :: List.zip r vs else _) = (f, v) :: List.zip r vs
      rw [if_pos rfl]
    · rw [if_neg e] at h
      cases q : fix f r with
      | none =>
        rw [q] at h
        cases h
      | some j =>
        rw [q] at h
        cases h
        show (if n = f then (n, v) :: List.zip r vs else (n, x) :: putF f v (List.zip r vs)) = (n, x) :: List.zip r (vs.set j v)
        rw [if_neg (fun z => e z.symm), zp q (Nat.succ.inj hl)]
theorem zx {f : Str} {v : V} : ∀ {ns : List Str} {vs : List V}, fix f ns = none → ns.length = vs.length → putF f v (List.zip ns vs) = List.zip (ns ++ [f]) (vs ++ [v])
  | [], [], _, _ => rfl
  | [], _ :: _, _, hl => by cases hl
  | n :: r, [], _, hl => by cases hl
  | n :: r, x :: vs, h, hl => by
    unfold fix at h
    by_cases e : f = n
    · rw [if_pos e] at h
      cases h
    · rw [if_neg e] at h
      cases q : fix f r with
      | some j =>
        rw [q] at h
        cases h
      | none =>
        show (if n = f then (n, v) :: List.zip r vs else (n, x) :: putF f v (List.zip r vs)) = (n, x) :: List.zip (r ++ [f]) (vs ++ [v])
        rw [if_neg (fun z => e z.symm), zx q (Nat.succ.inj hl)]
/-! ### the objects of a memory -/
def gNames : List Str := ["_entries", "_queue", "_tickets"]
def gFld (e q : Addr) (n : Int) : List (Str × V) := List.zip gNames [.ref e, .ref q, .int n]
def mNames : List Str := ["count", "guards", "_cells", "_blocks", "_journals", "_log"]
def mFld (n : Int) (aG aC aB aJ aL : Addr) : List (Str × V) := List.zip mNames [.int n, .ref aG, .ref aC, .ref aB, .ref aJ, .ref aL]
/-- a guard: what its entries, its queue and its tickets are -/
structure GS where
  ents : List (Key × V)
  que : List V
  tix : Int
/-- where a guard lies: the object, its dict, its entries, its queue -/
structure GL where
  g : Addr
  d : Addr
  e : Addr
  q : Addr
def GL.all (L : GL) : List Addr := [L.d, L.g, L.e, L.q]
structure GuardAt (C : Addr) (L : GL) (H : Hp) (G : GS) : Prop where
  og : H L.g = some (.ins C L.d (gFld L.e L.q G.tix))
  od : H L.d = some (.own L.g)
  oe : H L.e = some (.dK G.ents)
  oq : H L.q = some (.lst G.que)
theorem GuardAt.keep {C : Addr} {L : GL} {H H' : Hp} {G : GS} (h : GuardAt C L H G) (k : ∀ b ∈ L.all, H' b = H b) : GuardAt C L H' G :=
  ⟨(k _ (by simp [GL.all])).trans h.og, (k _ (by simp [GL.all])).trans h.od, (k _ (by simp [GL.all])).trans h.oe, (k _ (by simp [GL.all])).trans h.oq⟩
structure MS where
  count : Int
  cells : List V
  bl : Nat → List V
  jo : List V
  log : List V
  gs : Nat → GS
structure ML where
  m : Addr
  d : Addr
  aG : Addr
  aC : Addr
  aB : Addr
  bl : Nat → Addr
  aJ : Addr
  aL : Addr
  gs : Nat → GL
def ML.all (L : ML) : List Addr := [L.m, L.d, L.aG] ++ (L.gs 0).all ++ (L.gs 1).all ++ [L.aC, L.aB, L.bl 0, L.bl 1, L.aJ, L.aL]
structure MemAt (Cm Cg : Addr) (L : ML) (H : Hp) (M : MS) : Prop where
  om : H L.m = some (.ins Cm L.d (mFld M.count L.aG L.aC L.aB L.aJ L.aL))
  od : H L.d = some (.own L.m)
  og : H L.aG = some (.lst [.ref (L.gs 0).g, .ref (L.gs 1).g])
  oc : H L.aC = some (.lst M.cells)
  ob : H L.aB = some (.lst [.ref (L.bl 0), .ref (L.bl 1)])
  obl : ∀ d, d < 2 → H (L.bl d) = some (.lst (M.bl d))
  oj : H L.aJ = some (.lst M.jo)
  ol : H L.aL = some (.lst M.log)
  gu : ∀ d, d < 2 → GuardAt Cg (L.gs d) H (M.gs d)
  nd : L.all.Nodup
theorem lt2 {d : Nat} (h : d < 2) : d = 0 ∨ d = 1 := by omega
theorem ML.in_g {L : ML} {d : Nat} (hd : d < 2) {b : Addr} (h : b ∈ (L.gs d).all) : b ∈ L.all := by
  unfold ML.all
  rcases lt2 hd with rfl | rfl
  · exact List.mem_append_left _ (List.mem_append_left _ (List.mem_append_right _ h))
  · exact List.mem_append_left _ (List.mem_append_right _ h)
theorem ML.in_b {L : ML} {d : Nat} (hd : d < 2) : L.bl d ∈ L.all := by
  unfold ML.all
  rcases lt2 hd with rfl | rfl
  · simp
  · simp
/-- what lies outside of the memory does not matter -/
theorem MemAt.keep {Cm Cg : Addr} {L : ML} {H H' : Hp} {M : MS} (h : MemAt Cm Cg L H M) (k : ∀ b ∈ L.all, H' b = H b) : MemAt Cm Cg L H' M where
  om := (k _ (by simp [ML.all])).trans h.om
  od := (k _ (by simp [ML.all])).trans h.od
  og := (k _ (by simp [ML.all])).trans h.og
  oc := (k _ (by simp [ML.all])).trans h.oc
  ob := (k _ (by simp [ML.all])).trans h.ob
  obl := fun d hd => (k _ (ML.in_b hd)).trans (h.obl d hd)
  oj := (k _ (by simp [ML.all])).trans h.oj
  ol := (k _ (by simp [ML.all])).trans h.ol
  gu := fun d hd => (h.gu d hd).keep fun b hb => k b (ML.in_g hd hb)
  nd := h.nd
/-- what is tracked stays: heaps that only grow keep a memory -/
theorem MemAt.same {Cm Cg : Addr} {L : ML} {H H' : Hp} {M : MS} (h : MemAt Cm Cg L H M) (s : Same H H') : MemAt Cm Cg L H' M where
  om := s _ _ h.om
  od := s _ _ h.od
  og := s _ _ h.og
  oc := s _ _ h.oc
  ob := s _ _ h.ob
  obl := fun d hd => s _ _ (h.obl d hd)
  oj := s _ _ h.oj
  ol := s _ _ h.ol
  gu := fun d hd => ⟨s _ _ (h.gu d hd).og, s _ _ (h.gu d hd).od, s _ _ (h.gu d hd).oe, s _ _ (h.gu d hd).oq⟩
  nd := h.nd
theorem Same.new {H H' : Hp} {p : Addr} {o : HO} (s : Same H H') (h : H p = none) : Same H (upd H' p o) := fun b u e => by
  rw [upd_ne (ne_of_none e h)]
  exact s b u e
theorem free_upd {H : Hp} {p a : Addr} {o : HO} (h : upd H p o a = none) : a ≠ p ∧ H a = none := by
  by_cases e : a = p
  · rw [e, upd_same] at h
    cases h
  · rw [upd_ne e] at h
    exact ⟨e, h⟩

/-! ### addresses apart, all of them tracked -/
structure Trk (H : Hp) (S : List Addr) : Prop where
  nd : S.Nodup
  tr : ∀ a ∈ S, H a ≠ none
theorem Trk.not {H : Hp} {S : List Addr} {p : Addr} (t : Trk H S) (h : H p = none) : p ∉ S := fun m => t.tr p m h
theorem Trk.dom {H H' : Hp} {S : List Addr} (t : Trk H S) (k : ∀ a ∈ S, H a ≠ none → H' a ≠ none) : Trk H' S := ⟨t.nd, fun a m => k a m (t.tr a m)⟩
theorem dom_upd {H : Hp} {p a : Addr} {o : HO} (h : H a ≠ none) : upd H p o a ≠ none := by
  by_cases e : a = p
  · rw [e, upd_same]
    intro z
    cases z
  · rw [upd_ne e]
    exact h
theorem Trk.upd {H : Hp} {S : List Addr} {p : Addr} {o : HO} (t : Trk H S) : Trk (upd H p o) S := t.dom fun _ _ h => dom_upd h
theorem Trk.same {H H' : Hp} {S : List Addr} (t : Trk H S) (s : Same H H') : Trk H' S := t.dom fun a _ h => by
  cases q : H a with
  | none => exact absurd q h
  | some o =>
    rw [s a o q]
    intro z
    cases z
theorem Trk.add {H H' : Hp} {S : List Addr} {p : Addr} (t : Trk H S) (h : H p = none) (h' : H' p ≠ none) (k : ∀ a ∈ S, H a ≠ none → H' a ≠ none) : Trk H' (S ++ [p]) where
  nd := by
    rw [List.nodup_append]
    refine ⟨t.nd, by simp, fun a ha b hb e => ?_⟩
    rw [List.mem_singleton] at hb
    rw [e, hb] at ha
    exact t.not h ha
  tr := fun a ha => by
    rcases List.mem_append.mp ha with q | q
    · exact k a q (t.tr a q)
    · rw [List.mem_singleton] at q
      rw [q]
      exact h'
theorem Trk.new {H : Hp} {S : List Addr} {p : Addr} {o : HO} (t : Trk H S) (h : H p = none) : Trk (L2.upd H p o) (S ++ [p]) :=
  t.add h (by rw [upd_same]; intro z; cases z) fun a _ q => dom_upd q

theorem Trk.adds {H H' : Hp} {S ps : List Addr} (t : Trk H S) (hn : ps.Nodup) (h : ∀ p ∈ ps, H p = none) (h' : ∀ p ∈ ps, H' p ≠ none) (k : ∀ a ∈ S, H a ≠ none → H' a ≠ none) : Trk H' (S ++ ps) where
  nd := by
    rw [List.nodup_append]
    exact ⟨t.nd, hn, fun a ha b hb e => t.not (h b hb) (e ▸ ha)⟩
  tr := fun a ha => by
    rcases List.mem_append.mp ha with q | q
    · exact k a q (t.tr a q)
    · exact h' a q
theorem some_ne {o : HO} {x : Option HO} (h : x = some o) : x ≠ none := by
  rw [h]
  intro z
  cases z
theorem Trk.ne {H : Hp} {S : List Addr} {a b : Addr} {R : List Addr} (t : Trk H S) (e : S = R ++ [b]) (h : a ∈ R) : a ≠ b := by
  have n := t.nd
  rw [e, List.nodup_append] at n
  exact n.2.2 a h b (by simp)
/-- none of the addresses was tracked at first -/
theorem back {H H' : Hp} {a : Addr} (s : Same H H') (h : H' a = none) : H a = none := s.free h
end Rb
/-! More of the layer: joins, consts that are texts, values that tell their type. -/
namespace Rb
open PySem PySem.Spec PyProof.Rows L2
/-- a statement whose end is told by what is kept there -/
def tJoin (t : TS) : TS := fun D σ H => ∃ J : L2.St → Hp → Prop, t { D with nx := J } σ H ∧ ∀ σ' H', J σ' H' → D.nx σ' H'
theorem ps_join {X : Cx} {st : Stmt} {t : TS} (h : PS X st t) : PS X st (tJoin t) := ⟨fun pins s σ H D I hw => by
  obtain ⟨J, h1, h2⟩ := hw
  refine thn (h.run pins s σ H _ I h1) fun f s' q => ?_
  cases f with
  | next =>
    obtain ⟨σ', H', I', j⟩ := q
    exact ⟨σ', H', I', h2 _ _ j⟩
  | _ => exact q⟩
theorem str_at {K : PySem.W.Frag} {h : Heap} {mg : Str → Option Value} {x z : Str} (X : K.In h) (G : h.Ns mainGlobals mg) (c : (He.Fa.str x z).ok K = true) : ∃ u, mg x = some u ∧ RelV (.str z) u := by
  obtain ⟨t, e⟩ := He.str_ok X G c
  exact ⟨_, e, t, rfl⟩
theorem Same.seqT {K : PySem.W.Frag} {H H' : Hp} {a : Addr} {xs : List V} (e : Same H H') (h : SqT K H a xs) : SqT K H' a xs := by
  rcases h with (h | ⟨o, h⟩) | h
  · exact .inl (.inl (e _ _ h))
  · exact .inl (.inr ⟨o, e _ _ h⟩)
  · exact .inr h
/-! ### values that tell their type: flat ones and tuples -/
def El (H : Hp) : V → Prop
  | .non => True
  | .bl _ => True
  | .int _ => True
  | .str _ => True
  | .ref a => ∃ ys, H a = some (.tup ys)
  | _ => False
def tyN : V → String
  | .non => "NoneType"
  | .bl _ => "bool"
  | .int _ => "int"
  | .str _ => "str"
  | _ => "tuple"
theorem El.ty {K : PySem.W.Frag} {H : Hp} : ∀ {v : V}, El H v → TyB K H v (tyN v)
  | .non, _ => .non
  | .bl b, _ => .bl b
  | .int i, _ => .int i
  | .str x, _ => .str x
  | .ref a, h => by
    obtain ⟨ys, e⟩ := h
    exact .tup (SqT.of e)
theorem El.tx {K : PySem.W.Frag} {H : Hp} : ∀ {v : V}, El H v → TyX K H v (.type (tyN v))
  | .non, _ => .base .non
  | .bl b, _ => .base (.bl b)
  | .int i, _ => .base (.int i)
  | .str x, _ => .base (.str x)
  | .ref a, h => by
    obtain ⟨ys, e⟩ := h
    exact .base (.tup e)
theorem El.same {H H' : Hp} (s : Same H H') : ∀ {v : V}, El H v → El H' v
  | .non, _ => trivial
  | .bl _, _ => trivial
  | .int _, _ => trivial
  | .str _, _ => trivial
  | .ref a, h => by
    obtain ⟨ys, e⟩ := h
    exact ⟨ys, s _ _ e⟩
/-- a list that is written is no tuple -/
theorem El.put {H : Hp} {p : Addr} {xs : List V} {o : HO} (e : H p = some (.lst xs)) : ∀ {v : V}, El H v → El (upd H p o) v
  | .non, _ => trivial
  | .bl _, _ => trivial
  | .int _, _ => trivial
  | .str _, _ => trivial
  | .ref a, h => by
    obtain ⟨ys, k⟩ := h
    refine ⟨ys, ?_⟩
    rw [upd_ne (fun z => by subst z; rw [e] at k; cases k)]
    exact k
/-- what is new since may be written -/
theorem Same.put {H H' : Hp} {p : Addr} {o : HO} (s : Same H H') (h : H p = none) : Same H (upd H' p o) := fun b u e => by
  rw [upd_ne (ne_of_none e h)]
  exact s b u e
/-- a list or a tuple of such -/
def Sv (H : Hp) (v : V) (t : Bool) (xs : List V) : Prop := ∃ a, v = .ref a ∧ (if t then H a = some (.tup xs) else H a = some (.lst xs)) ∧ xs.length ≤ 64 ∧ ∀ x ∈ xs, El H x
theorem Sv.ty {K : PySem.W.Frag} {H : Hp} {v : V} {t : Bool} {xs : List V} (h : Sv H v t xs) : TyB K H v (if t then "tuple" else "list") := by
  obtain ⟨a, rfl, e, _⟩ := h
  cases t
  · exact .lst (SqL.of e)
  · exact .tup (SqT.of e)
theorem Sv.tx {K : PySem.W.Frag} {H : Hp} {v : V} {t : Bool} {xs : List V} (h : Sv H v t xs) : TyX K H v (.type (if t then "tuple" else "list")) := by
  obtain ⟨a, rfl, e, _⟩ := h
  cases t
  · exact .base (.lst e)
  · exact .base (.tup e)
theorem Sv.same {H H' : Hp} (s : Same H H') {v : V} {t : Bool} {xs : List V} (h : Sv H v t xs) : Sv H' v t xs := by
  obtain ⟨a, rfl, e, l, k⟩ := h
  refine ⟨a, rfl, ?_, l, fun x hx => (k x hx).same s⟩
  cases t
  · exact s _ _ e
  · exact s _ _ e
end Rb
/-! Rules that the hand layer lacks: match on a tuple whose first part is a word. -/
namespace Rb
open PySem PySem.Spec PyProof.Rows L2

/-- a pattern: what it makes of a value (none: it does not match), the names by their slots -/
abbrev TPt := V → Hp → Option (List (Nat × V)) → Prop
abbrev TPs := List V → Hp → Option (List (Nat × V)) → Prop
def BindR (X : Cx) (p : Nat × V) (q : Str × Value) : Prop :=
  X.N[p.1]? = some q.1 ∧ Loc X.env.scope q.1 ∧ (X.fn q.1 = true ∨ X.env.scope.names.lookup q.1 = some .local) ∧ RelV p.2 q.2
def BindO (X : Cx) : Option (List (Nat × V)) → Option (List (Str × Value)) → Prop
  | none, none => True
  | some bs, some ns => Paired (BindR X) bs ns
  | _, _ => False
structure PPt (X : Cx) (p : Pattern) (t : TPt) : Prop where
  run : ∀ (pins : List (Addr × Obj)) (s : Shared) (σ : L2.St) (H : Hp) (v : V) (u : Value) (r : Option (List (Nat × V))), Inv X pins σ H s → RelV v u → t v H r →
    wpAny (model X.prog X.w) X.A (matchPattern p X.env u) (fun r' s' => Inv X pins σ H s' ∧ BindO X r r') X.xe s
structure PPs (X : Cx) (ps : List Pattern) (t : TPs) : Prop where
  run : ∀ (pins : List (Addr × Obj)) (s : Shared) (σ : L2.St) (H : Hp) (vs : List V) (us : List Value) (r : Option (List (Nat × V))), Inv X pins σ H s → Vals vs us → t vs H r →
    wpAny (model X.prog X.w) X.A (matchEach ps X.env us) (fun r' s' => Inv X pins σ H s' ∧ BindO X r r') X.xe s
theorem paired_app {α β : Type} {R : α → β → Prop} : ∀ {xs ys : List α} {us ws : List β}, Paired R xs us → Paired R ys ws → Paired R (xs ++ ys) (us ++ ws)
  | _, _, _, _, .nil, s => s
  | _, _, _, _, .cons r t, s => .cons r (paired_app t s)
section
variable {X : Cx} {pos : Pos}
/-- a written word -/
def mWord (x : Str) : TPt := fun v _ r => ∃ y, v = .str y ∧ r = if y == x then some [] else none
theorem pm_word {x : Str} {k p2} : PPt X (.MatchValue (.Constant (.str x) k p2) pos) (mWord x) := by
  refine ⟨fun pins s σ H v u r I rv h => ?_⟩
  obtain ⟨y, e1, e2⟩ := h
  subst e1
  obtain ⟨t, rfl⟩ := rv
  refine wpAny_matchPattern_Value (Calls.Constant_str ?_)
  refine PyProof.Rows.eq_str ?_
  refine wpAny_truthy_bool ?_
  have I2 := I.tok (s.toks + 1)
  subst e2
  cases y == x with
  | true =>
    rw [if_pos rfl]
    exact ⟨I2, Paired.nil⟩
  | false =>
    rw [if_neg Bool.false_ne_true]
    exact ⟨I2, trivial⟩
/-- a name -/
def mName (i : Nat) : TPt := fun v _ r => r = some [(i, v)]
theorem pm_name {i : Nat} {x : Str} (hi : X.N[i]? = some x) (hx : Loc X.env.scope x) (hf : X.fn x = true ∨ X.env.scope.names.lookup x = some .local := by first | exact .inl rfl | exact .inr rfl | assumption) :
    PPt X (.MatchAs none (some x) pos) (mName i) := by
  refine ⟨fun pins s σ H v u r I rv h => ?_⟩
  subst h
  exact wpAny_matchPattern_Capture ⟨I, .cons ⟨hi, hx, hf, rv⟩ .nil⟩
/-- _ -/
def mAny : TPt := fun _ _ r => r = some []
theorem pm_any : PPt X (.MatchAs none none pos) mAny := by
  refine ⟨fun pins s σ H v u r I rv h => ?_⟩
  subst h
  exact wpAny_matchPattern_Capture ⟨I, .nil⟩
def mNil : TPs := fun vs _ r => vs = [] ∧ r = some []
def mCons (t : TPt) (u : TPs) : TPs := fun vs H r => ∃ v w, vs = v :: w ∧ ((t v H none ∧ r = none) ∨ ∃ bs r2, t v H (some bs) ∧ u w H r2 ∧ r = r2.map (bs ++ ·))
theorem pms_nil : PPs X [] mNil := by
  refine ⟨fun pins s σ H vs us r I rv h => ?_⟩
  obtain ⟨e, e2⟩ := h
  subst e e2
  exact wpAny_matchEach_nil ⟨I, .nil⟩
theorem pms_cons {p : Pattern} {ps : List Pattern} {t : TPt} {u : TPs} (h1 : PPt X p t) (h2 : PPs X ps u) (hp : p.isStar = false := by rfl) : PPs X (p :: ps) (mCons t u) := by
  refine ⟨fun pins s σ H vs us r I rv h => ?_⟩
  obtain ⟨v, w, e, h⟩ := h
  subst e
  cases rv with
  | cons r1 rr =>
    refine wpAny_matchEach_cons ?_ hp
    rcases h with ⟨h, e⟩ | ⟨bs, r2, ha, hb, e⟩
    · subst e
      refine thn (h1.run pins s σ H _ _ _ I r1 h) fun r' s1 ⟨I1, b⟩ => ?_
      cases r' with
      | none => exact ⟨I1, trivial⟩
      | some _ => exact b.elim
    · subst e
      refine thn (h1.run pins s σ H _ _ _ I r1 ha) fun r' s1 ⟨I1, b⟩ => ?_
      cases r' with
      | none => exact b.elim
      | some bs' =>
        refine thn (h2.run pins s1 σ H _ _ _ I1 rr hb) fun r'' s2 ⟨I2, b2⟩ => ?_
        cases r2 with
        | none =>
          cases r'' with
          | none => exact ⟨I2, trivial⟩
          | some _ => exact b2.elim
        | some q =>
          cases r'' with
          | none => exact b2.elim
          | some q' => exact ⟨I2, paired_app b b2⟩
/-- a tuple of so many parts -/
def mSeq (K : PySem.W.Frag) (n : Nat) (t : TPs) : TPt := fun v H r => ∃ a xs, v = .ref a ∧ SqT K H a xs ∧ ((xs.length ≠ n ∧ r = none) ∨ (xs.length = n ∧ t xs H r))
theorem pm_seq {ps : List Pattern} {n : Nat} {t : TPs} (hc : X.calm = true) (h : PPs X ps t) (hn : ps.length = n := by rfl)
    (hstar : ps.findIdx? (·.isStar) = none := by rfl) (hwild : (ps.all fun p => p.isWildcard || (p.isStar && p.names.isEmpty)) = false := by rfl) : PPt X (.MatchSequence ps pos) (mSeq X.K n t) := by
  refine ⟨fun pins s σ H v u r I rv hw => ?_⟩
  obtain ⟨a, xs, e1, hq, hw⟩ := hw
  subst e1 hn
  cases rv
  obtain ⟨its, rv, ht, hz⟩ := I.tuple hq
  have el := rv.length
  have hf : ((its.toArray.size : Nat) : Int) < 2 ^ 63 := by
    rw [sizeLine_eq] at hz
    simp only [List.size_toArray]
    omega
  rcases hw with ⟨hl, e⟩ | ⟨hl, hw⟩
  · subst e
    exact matchSeq_tuple_miss ht hf (by simp only [List.size_toArray]; omega) ⟨I.tok _, trivial⟩ hstar hwild
  · refine matchSeq_tuple_hit ht hf (by simp only [List.size_toArray]; omega) ?_ hstar hwild
    have e2 : ps.length = its.toArray.size := by simp only [List.size_toArray]; omega
    rw [e2]
    refine unpackItems_tuple (I.ok.hd hc) ht fun h' hx => ?_
    have I1 : Inv X pins σ H { s with heap := h', toks := s.toks + 1 + 1 } := I.kept (t' := s.toks + 1 + 1) fun b o e => hx b o (Nat.ne_of_lt (Heap.lt_size e)) e
    exact h.run pins _ σ H xs _ r I1 (by simpa using rv) hw

/-! ### the cases -/
abbrev TMs := V → TS
def setAll : L2.St → List (Nat × V) → L2.St
  | σ, [] => σ
  | σ, p :: ps => setAll (σ.set p.1 (some p.2)) ps
structure PMs (X : Cx) (cs : List MatchCase) (t : TMs) : Prop where
  run : ∀ (first : Bool) (pins : List (Addr × Obj)) (s : Shared) (σ : L2.St) (H : Hp) (D : Ends) (v : V) (u : Value), Inv X pins σ H s → RelV v u → t v D σ H →
    wpAny (model X.prog X.w) X.A (matchCases cs X.env u first) (SP X pins D) X.xe s
def cNil : TMs := fun _ D σ H => D.nx σ H
/-- a case, then the rest -/
def cCons (t : TPt) (b : TS) (rest : TMs) : TMs := fun v D σ H => (t v H none ∧ rest v D σ H) ∨ ∃ bs, t v H (some bs) ∧ b D (setAll σ bs) H
theorem pc_nil : PMs X [] cNil := ⟨fun _ _ _ σ H _ _ _ I _ h => wpAny_matchCases_nil ⟨σ, H, I, h⟩⟩
theorem binds_all (hN : X.N.Nodup) {Q : Unit → Shared → Prop} {pins : List (Addr × Obj)} {H : Hp} : ∀ {bs : List (Nat × V)} {ns : List (Str × Value)} {σ : L2.St} {s : Shared}, Paired (BindR X) bs ns → Inv X pins σ H s →
    (∀ s', Inv X pins (setAll σ bs) H s' → Q () s') → wpAny (model X.prog X.w) X.A (assignInOrder (ns.map fun x => match x with | (n, _) => bindName X.env n) (ns.map (·.2))) Q X.xe s
  | _, _, _, _, .nil, I, h => assignInOrder_nil (h _ I)
  | _, _, _, _, .cons r t, I, h => by
    obtain ⟨hi, hx, hf, rv⟩ := r
    exact assignInOrder_cons (wpAny_bindName (store_ok I hN hi hx rv (fun s1 I1 => binds_all hN t I1 h) hf))
theorem pc_cons {p : Pattern} {body : List Stmt} {rest : List MatchCase} {t : TPt} {b : TS} {u : TMs} (hN : X.N.Nodup) (hp : PPt X p t) (hb : PSs X body b) (hr : PMs X rest u) :
    PMs X (⟨p, none, body⟩ :: rest) (cCons t b u) := by
  refine ⟨fun first pins s σ H D v w I rv h => ?_⟩
  refine wpAny_matchCases_cons ?_
  rcases h with ⟨h1, h2⟩ | ⟨bs, h1, h2⟩
  · refine thn (hp.run pins s σ H _ _ _ I rv h1) fun r' s1 ⟨I1, q⟩ => ?_
    cases r' with
    | none => exact hr.run false pins s1 σ H D v w I1 rv h2
    | some _ => exact q.elim
  · refine thn (hp.run pins s σ H _ _ _ I rv h1) fun r' s1 ⟨I1, q⟩ => ?_
    cases r' with
    | none => exact q.elim
    | some ns => exact binds_all hN q I1 fun s2 I2 => hb.run pins s2 _ H D I2 h2
def tMatch (te : TE) (tc : TMs) : TS := fun D σ H => te σ H fun v H1 => tc v D σ H1
theorem ps_match {e : Expr} {cs : List MatchCase} {te : TE} {tc : TMs} (he : PE X e te) (hc : PMs X cs tc) : PS X (.Match e cs pos) (tMatch te tc) := by
  refine ⟨fun pins s σ H D I h => ?_⟩
  exact wpAny_Match (thn (he.run pins s σ H _ I h) fun u s1 ⟨v, H1, I1, r1, q1⟩ => hc.run true pins s1 σ H1 D v u I1 r1 q1)
end
/-! ### readings: a word and its parts -/
section
variable {K : PySem.W.Frag} {H : Hp} {a : Addr} {x y : Str} {rest : List V} {n : Nat} {t : TPs} {b : TS} {u : TMs} {D : Ends} {σ : L2.St} {bs : List (Nat × V)}
theorem miss_word (h : SqT K H a (.str y :: rest)) (hy : (y == x) = false) (q : u (.ref a) D σ H) : cCons (mSeq K n (mCons (mWord x) t)) b u (.ref a) D σ H := by
  refine .inl ⟨⟨a, _, rfl, h, ?_⟩, q⟩
  by_cases e : (V.str y :: rest).length = n
  · exact .inr ⟨e, _, _, rfl, .inl ⟨⟨y, rfl, by rw [hy]; rfl⟩, rfl⟩⟩
  · exact .inl ⟨e, rfl⟩
theorem hit_word (h : SqT K H a (.str x :: rest)) (hn : (V.str x :: rest).length = n) (ht : t rest H (some bs)) (q : b D (setAll σ bs) H) : cCons (mSeq K n (mCons (mWord x) t)) b u (.ref a) D σ H := by
  refine .inr ⟨bs, ⟨a, _, rfl, h, .inr ⟨hn, _, _, rfl, .inr ⟨[], some bs, ⟨x, rfl, ?_⟩, ht, rfl⟩⟩⟩, q⟩
  simp
theorem mn_nil : mNil [] H (some []) := ⟨rfl, rfl⟩
theorem mn_name {i : Nat} {v : V} {w : List V} (h : t w H (some bs)) : mCons (mName i) t (v :: w) H (some ((i, v) :: bs)) := ⟨_, _, rfl, .inr ⟨[(i, v)], _, rfl, h, rfl⟩⟩
theorem mn_any {v : V} {w : List V} (h : t w H (some bs)) : mCons mAny t (v :: w) H (some bs) := ⟨_, _, rfl, .inr ⟨[], _, rfl, h, rfl⟩⟩
end
end Rb
/-! a, .., *rest = a tuple: the rest becomes a new list. -/
namespace Rb
open PySem PySem.Spec PyProof.Rows L2
section
variable {prog : Program} {w : World} {A : Around} {E : Value → Shared → Prop} {s : Shared}
theorem rest_items {l : Addr} {its : Array Value} {i : Nat} {Q : List Value → Shared → Prop} (hl : IsTup s.heap l its) (hh : A.handled = none) (hi : i ≤ its.size) (hz : its.size ≤ sizeLine)
    (h : ∀ (h1 : Heap) (tk : Nat), (∀ b o, s.heap.get? b = some o → h1.get? b = some o) →
      Q (its.toList.take i ++ [.ref h1.objs.size]) { s with heap := h1.push { cls := .type "list", data := .seq (its.toList.drop i).toArray }, toks := tk }) :
    wpAny (model prog w) A (unpackItems (.ref l) (i + 1) (some i)) Q E s := by
  have ll : l < s.heap.objs.size := by
    obtain ⟨o, ho, _⟩ := hl
    exact Heap.lt_size ho
  have ne : l ≠ s.heap.objs.size := Nat.ne_of_lt ll
  unfold unpackItems
  refine wpAny_bind ?_
  unfold notIterableAtAll
  refine wpAny_bind (wpAny_specialOf hl.typeIs slot_tuple_iter.lookup (wpAny_pure ?_))
  simp only [Bool.false_eq_true, if_false]
  refine wpAny_bind (wpAny_holding (iter_tuple hl ?_))
  refine wpAny_bind (wpAny_holding (draw_tuple ne i 0 _ _ ⟨_, Heap.get?_push_size _ rfl, rfl, rfl⟩ (hl.push _) (by omega) fun h1 t1 k1 => ?_))
  rw [Nat.zero_add] at t1
  have l1 : IsTup h1 l its := (hl.push _).extBut k1.extBut ne
  have z1 : s.heap.objs.size < h1.objs.size := by
    obtain ⟨o, ho, _⟩ := id t1
    exact Heap.lt_size ho
  have zl : l < h1.objs.size := Nat.lt_trans ll z1
  rw [List.drop_zero, if_neg (by rw [List.length_take, Array.length_toList]; omega)]
  refine wpAny_bind (wpAny_holding (PySem.W.kun_collect (s := { s with heap := h1 }) (T := "tuple_iterator") (.inr (.inr (.inr rfl))) (Walks.tuple (A := A.in1) hh s.heap.objs.size l ne its) (fun j u st => st.1.typeIs) hi ⟨t1, l1⟩ z1 zl (fun h2 tk k2 => ?_) hz))
  have e0 : i + 1 - 1 - i = 0 := by omega
  rw [e0, if_neg (Nat.not_lt_zero _), Nat.sub_zero, List.take_length, List.drop_length]
  refine wpAny_bind (wpAny_newList (wpAny_pure ?_) (by rw [List.length_drop, Array.length_toList]; omega))
  rw [List.append_nil]
  exact h h2 tk fun b o e => k2 b o (Nat.ne_of_lt (Heap.lt_size e)) (k1.extBut b o (Nat.ne_of_lt (Heap.lt_size e)) (Heap.get?_push_of_some _ e))
end
section
variable {X : Cx} {pos : Pos}
/-- a, .., *rest = a tuple; n names before the rest -/
def gStar (K : PySem.W.Frag) (n : Nat) (t : TGs) : TG := fun v σ H Q => ∃ a xs, v = .ref a ∧ SqT K H a xs ∧ n ≤ xs.length ∧ ∀ d, H d = none → t (xs.take n ++ [.ref d]) σ (upd H d (.lst (xs.drop n))) Q
theorem pg_star {es es' : List Expr} {k n : Nat} {t : TGs} (hc : X.calm = true) (h : PGs X es' t)
    (hn : (assignEach es X.env).length = n + 1 := by rfl) (hst : (assignEach es X.env).findIdx? (·.1) = some n := by rfl)
    (hm : (assignEach es X.env).map (·.2) = (assignEach es' X.env).map (·.2) := by rfl) : PG X (.Tuple es k pos) (gStar X.K n t) := by
  refine ⟨fun pins s σ H v u Q I r hw => ?_⟩
  obtain ⟨a, xs, e1, hq, hl, hw⟩ := hw
  subst e1
  cases r
  obtain ⟨its, rv, ht, hz⟩ := I.tuple hq
  have el := rv.length
  rw [assign_Tuple]
  refine wpAny_bind (wpAny_standAt ?_)
  unfold unpack
  rw [hn, hst]
  refine wpAny_bind (wpAny_holding (rest_items ht (I.ok.hd hc) (by simp only [List.size_toArray]; omega) (by simp only [List.size_toArray]; omega) fun h1 tk kk => ?_))
  have I1 : Inv X pins σ H { s with heap := h1, toks := tk } := I.kept (t' := tk) kk
  have hd : H h1.objs.size = none := I1.hok.fresh (Nat.le_refl _)
  have I2 : Inv X pins σ (upd H h1.objs.size (.lst (xs.drop n))) { s with heap := h1.push { cls := .type "list", data := .seq (its.drop n).toArray }, toks := tk } :=
    I1.laid (t' := tk) (fun b o e => Heap.get?_push_of_some _ e) (Nat.le_refl _) ⟨by rw [List.length_drop]; omega, _, 0, Vals.drop n rv, Heap.get?_push_size _ rfl⟩
  rw [hm]
  exact h.run pins _ σ _ _ _ Q I2 (Vals.append (Vals.take n rv) (.cons (show L2.RelV (.ref h1.objs.size) (Value.ref h1.objs.size) from rfl) .nil)) (hw _ hd)
end
end Rb
/-! zip of a tuple and a list. -/
namespace Rb
open PySem PySem.Spec PyProof.Rows L2

/-- the tuple at a and the list at b as they stand at each turn, the items in new pairs -/
def ItzM (K : PySem.W.Frag) (a b : Addr) : It :=
  ⟨fun i H => ∃ (xs ys : List V) (x y : V), SqT K H a xs ∧ SqL K H b ys ∧ xs[i]? = some x ∧ ys[i]? = some y,
    fun i H v H' => ∃ T x y, v = .ref T ∧ H T = none ∧ H' = upd H T (.tup [x, y]) ∧ (∀ xs, SqT K H a xs → xs[i]? = some x) ∧ ∀ ys, SqL K H b ys → ys[i]? = some y,
    fun i H => ∃ xs ys : List V, SqT K H a xs ∧ SqL K H b ys ∧ i ≤ xs.length ∧ i ≤ ys.length ∧ (i = xs.length ∨ i = ys.length)⟩
theorem zip_sep {z TI TO i1 i2 a b : Addr} (D : ZipApart z TI TO i1 i2 a b) : ZipSep2 z TI TO i1 i2 [i1, a] [i2, b] where
  TIz := D.TIz
  TOz := D.TOz
  TITO := D.TITO
  TIi1 := D.TIi1
  mem1 := by simp
  zf1 := by simp [D.i1z.symm, D.l1z.symm]
  Tf1 := by simp [D.TOi1, D.l1TO.symm]
  TIi2 := D.TIi2
  mem2 := by simp
  zf2 := by simp [D.i2z.symm, D.l2z.symm]
  Tf2 := by simp [D.TOi2, D.l2TO.symm]
  sep1_2 := by simp [D.i12, D.l2i1.symm]
  sep2_1 := by simp [D.i12.symm, D.l1i2.symm]
def tnM (z TI TO i1 i2 a b : Addr) (i : Nat) (h : Heap) : Prop :=
  IsZip h z TI TO .none ∧ IsPair h TI (.ref i1) (.ref i2) ∧ (∃ x y, IsPair h TO x y) ∧ h.IsTupleIter i1 a i ∧ h.IsListIter i2 b i
theorem turn_zipM {P : Program} {w : World} {K : PySem.W.Frag} {elts : List Expr} {kk : Nat} {tpos : Pos} {a b z TI TO i1 i2 : Addr} (D : ZipApart z TI TO i1 i2 a b) :
    Turn P w K (.Tuple elts kk tpos) (ItzM K a b) [z, TI, TO, i1, i2] z (tnM z TI TO i1 i2 a b) where
  mem := by simp
  obj := fun i h st c hc => by
    obtain ⟨hz, hTI, ⟨x, y, hTO⟩, ⟨o1, e1, _, d1⟩, ⟨o2, e2, _, d2⟩⟩ := st
    simp only [List.mem_cons, List.not_mem_nil, or_false] at hc
    rcases hc with rfl | rfl | rfl | rfl | rfl
    · exact ⟨_, hz, fun v q => nomatch q⟩
    · exact ⟨_, hTI, fun v q => nomatch q⟩
    · exact ⟨_, hTO, fun v q => nomatch q⟩
    · exact ⟨o1, e1, fun v q => by rw [d1] at q; cases q⟩
    · exact ⟨o2, e2, fun v q => by rw [d2] at q; cases q⟩
  keep := fun i h h' st k => by
    obtain ⟨hz, hTI, ⟨x, y, hTO⟩, h1, h2⟩ := st
    exact ⟨k z (by simp) _ hz, k TI (by simp) _ hTI, ⟨x, y, k TO (by simp) _ hTO⟩, h1.at fun o q => k i1 (by simp) o q, h2.at fun o q => k i2 (by simp) o q⟩
  item := by
    intro X hP hw hK hc i pins s σ H E I hf st hg
    subst hP hw hK
    obtain ⟨hz, hTI, ⟨x0, y0, hTO⟩, h1, h2⟩ := st
    obtain ⟨xs, ys, x, y, qx, qy, hx, hy⟩ := hg
    obtain ⟨its, rv, p, _⟩ := I.tuple qx
    obtain ⟨its2, rv2, p2, _⟩ := I.list qy
    obtain ⟨u, hu, ru⟩ := rv.get hx
    obtain ⟨u2, hu2, ru2⟩ := rv2.get hy
    have S := zip_sep D
    have hzl : z < s.heap.objs.size := Heap.lt_size hz
    have D1 : Draws X.prog X.w X.A.in1 i1 [i1, a] its.toArray.size (fun i v => its.toArray[i]? = some v) (fun i h => h.IsTupleIter i1 a i ∧ h.IsTuple a its.toArray) := Draws.tuple (A := X.A.in1) (I.ok.hd hc) i1 a D.l1i1 its.toArray
    have D2 : Draws X.prog X.w X.A.in1 i2 [i2, b] its2.toArray.size (fun i v => its2.toArray[i]? = some v) (fun i h => h.IsListIter i2 b i ∧ h.IsList b its2.toArray) := Draws.list (A := X.A.in1) (I.ok.hd hc) i2 b D.l2i2 its2.toArray
    have l1 : i < its.toArray.size := by
      have := (List.getElem?_eq_some_iff.mp hu).1
      simpa using this
    have l2 : i < its2.toArray.size := by
      have := (List.getElem?_eq_some_iff.mp hu2).1
      simpa using this
    refine wpAny_pyNext_zipD2_item S D1 D2 hz hTI hTO ⟨h1, p⟩ ⟨h2, p2.isList⟩ l1 l2 fun v1 v2 h' tk w1 w2 z' TO' st1' st2' hT hsz hk => ?_
    have e1 : v1 = u := by
      simp only [List.getElem?_toArray, hu] at w1
      exact (Option.some.inj w1).symm
    have e2 : v2 = u2 := by
      simp only [List.getElem?_toArray, hu2] at w2
      exact (Option.some.inj w2).symm
    subst e1 e2
    refine ⟨_, rfl, wpAny_letOwnedTupleGo_zip (s := { s with heap := h', toks := tk }) z' fun h'' z'' sb => ?_⟩
    have hT2 : h''.get? s.heap.objs.size = some { cls := .type "tuple", data := .seq #[v1, v2] } := (sb.2 _ (Nat.ne_of_gt hzl)).trans hT
    have new : ObjOk X.prog X.w (upd H s.heap.objs.size (.tup [x, y])) h'' s.heap.objs.size (.tup [x, y]) :=
      ⟨by show 2 ≤ sizeLine; decide, [v1, v2], .cons ru (.cons ru2 .nil), ⟨_, hT2, rfl, _, rfl⟩⟩
    have I1 : Inv X pins σ (upd H s.heap.objs.size (.tup [x, y])) { s with heap := h'', toks := tk } :=
      I.turnedNew (t' := tk) (ch := [z, TI, TO, i1, i2]) (fun c o hb q => (sb.2 c (fun q' => hb (by simp [q']))).trans (hk c o (fun q' => hb (by simp [q'])) (fun q' => hb (by simp [q'])) (fun q' => hb (by simp [q'])) (fun q' => hb (by simp [q'])) q)) hf (Nat.le_refl _) new
    refine ⟨.ref s.heap.objs.size, _, I1, rfl, ⟨_, x, y, rfl, I.hok.fresh (Nat.le_refl _), rfl, fun l hl => by rw [I.tuple_inj hl qx]; exact hx, fun l hl => by rw [I.list_inj hl qy]; exact hy⟩, ⟨z'', ?_, ⟨v1, v2, ?_⟩, ?_, ?_⟩, fun c hcm => ?_⟩
    · exact (sb.2 _ D.TIz).trans (hk _ _ D.TIz D.TITO D.TIi1 D.TIi2 hTI)
    · exact (sb.2 _ D.TOz).trans TO'
    · exact st1'.1.at fun o q => (sb.2 _ D.i1z).trans q
    · exact st2'.1.at fun o q => (sb.2 _ D.i2z).trans q
    · have hlt : c < s.heap.objs.size := by
        simp only [List.mem_cons, List.not_mem_nil, or_false] at hcm
        rcases hcm with rfl | rfl | rfl | rfl | rfl
        · exact hzl
        · exact Heap.lt_size hTI
        · exact Heap.lt_size hTO
        · obtain ⟨_, e1, _⟩ := h1
          exact Heap.lt_size e1
        · obtain ⟨_, e2, _⟩ := h2
          exact Heap.lt_size e2
      rw [upd_ne (Nat.ne_of_lt hlt)]
      exact (hf c hcm).1
  done := by
    intro X hP hw hK hc i pins s σ H E I hf st hg
    subst hP hw hK
    obtain ⟨hz, hTI, ⟨x0, y0, hTO⟩, h1, h2⟩ := st
    obtain ⟨xs, ys, qx, qy, g1, g2, hend⟩ := hg
    obtain ⟨its, rv, p, _⟩ := I.tuple qx
    obtain ⟨its2, rv2, p2, _⟩ := I.list qy
    have l1 := rv.length
    have l2 := rv2.length
    have S := zip_sep D
    have D1 : Draws X.prog X.w X.A.in1 i1 [i1, a] its.toArray.size (fun i v => its.toArray[i]? = some v) (fun i h => h.IsTupleIter i1 a i ∧ h.IsTuple a its.toArray) := Draws.tuple (A := X.A.in1) (I.ok.hd hc) i1 a D.l1i1 its.toArray
    have D2 : Draws X.prog X.w X.A.in1 i2 [i2, b] its2.toArray.size (fun i v => its2.toArray[i]? = some v) (fun i h => h.IsListIter i2 b i ∧ h.IsList b its2.toArray) := Draws.list (A := X.A.in1) (I.ok.hd hc) i2 b D.l2i2 its2.toArray
    refine wpAny_pyNext_zipD2_end S D1 D2 hz hTI hTO ⟨h1, p⟩ ⟨h2, p2.isList⟩ (by simp only [List.size_toArray]; omega) (by simp only [List.size_toArray]; omega) (by simp only [List.size_toArray]; omega) fun h' tk hk => ⟨rfl, ?_⟩
    exact I.turnedL (t' := tk) (ch := [z, TI, TO, i1, i2]) (fun c o hb q => hk c o (fun q' => hb (by simp [q'])) (fun q' => hb (by simp [q'])) (fun q' => hb (by simp [q'])) (fun q' => hb (by simp [q'])) q) hf
  self := fun A i s Q E st h => wpAny_pyIter_zip st.1 h

def iZipM (K : PySem.W.Frag) (ta : TA) : TI := fun σ H R => ta σ H fun vs H1 => ∃ a b xs ys, vs = [.ref a, .ref b] ∧ SqT K H1 a xs ∧ SqL K H1 b ys ∧ R (ItzM K a b) H1
theorem pi_zipM {X : Cx} {e e2 : Expr} {ta : TA} {p pos tpos : Pos} {elts : List Expr} {kk : Nat} (hg : Gl X "zip") (hm : X.mg "zip" = none) (ha : PA X [e, e2] ta)
    (hs : starEach [e, e2] X.env = (false, eval e X.env) :: starEach [e2] X.env := by rfl) (hpl : (backTo pos (starEach [e2] X.env)).any (·.1) = false := by rfl) :
    PI X (.Tuple elts kk tpos) (.Call (.Name "zip" p) [e, e2] [] pos) (iZipM X.K ta) := by
  refine ⟨fun pins s σ H R I h => ?_⟩
  refine Call_ (ld_blt I hg hm PyProof.Rows.boot_zip (PyProof.Rows.callWith_type1 (thn (ha.run pos pins s σ H _ I h) fun us s1 ⟨vs, H1, I1, r1, q1⟩ => ?_) hs hpl))
  obtain ⟨a, b, xs, ys, ex, qx, qy, q⟩ := q1
  subst ex
  cases r1 with
  | cons r rr =>
    cases rr with
    | cons r' rr =>
      cases rr
      cases r
      cases r'
      obtain ⟨its, rv, p1, _⟩ := I1.tuple qx
      obtain ⟨its2, rv2, p2, _⟩ := I1.list qy
      have lo : a < s1.heap.objs.size := by
        obtain ⟨o1, ho1, _⟩ := id p1
        exact Heap.lt_size ho1
      refine zip_begins2 (begins_tuple a its.toArray) (begins_list b its2.toArray) p1 p2.isList fun h' hz hTI hTO g1 g2 hsz hk => wpAny_pyIter_zip hz ?_
      have I2 : Inv X pins σ H1 { s1 with heap := h' } := I1.kept (t' := s1.toks) hk
      refine ⟨s1.heap.objs.size + 4, [s1.heap.objs.size + 4, s1.heap.objs.size + 2, s1.heap.objs.size + 3, s1.heap.objs.size, s1.heap.objs.size + 1], _, _, H1, rfl, I2, turn_zipM (PySem.W.ktu_apart s1.heap.objs.size a b lo p2.lt), ⟨hz, hTI, ⟨_, _, hTO⟩, ⟨_, g1, rfl, rfl⟩, ⟨_, g2, rfl, rfl⟩⟩, fun c hcm => ?_, q⟩
      have hle : s1.heap.objs.size ≤ c := by
        simp only [List.mem_cons, List.not_mem_nil, or_false] at hcm
        rcases hcm with rfl | rfl | rfl | rfl | rfl
        · exact Nat.le_add_right _ _
        · exact Nat.le_add_right _ _
        · exact Nat.le_add_right _ _
        · exact Nat.le_refl _
        · exact Nat.le_add_right _ _
      exact I1.fpOk hle (I1.hok.fresh hle)
/-- (a, b, ..) = a tuple, the written part by name (within a comprehension's block) -/
theorem pg_tupK {X : Cx} {K : PySem.W.Frag} {pos : Pos} {es : List Expr} {k : Nat} {t : TGs} {n : Nat} (hK : X.K = K) (hc : X.calm = true) (h : PGs X es t)
    (hn : (assignEach es X.env).length = n := by rfl) (hst : (assignEach es X.env).findIdx? (·.1) = none := by rfl) : PG X (.Tuple es k pos) (gTup K n t) := by
  subst hK
  exact pg_tup hc h hn hst
/-- a comprehension over a tuple and a list of one length -/
theorem lc_zipM {K : PySem.W.Frag} {a b : Addr} {xs ys : List V} {g : TG} {tt : TT} {te : TE} {vs : List Nat} {σ : L2.St} {H1 : Hp} {D : Addr} {Qd : Hp → Prop} (hl : xs.length = ys.length) (Pv : Nat → Hp → Prop) (h0 : Pv 0 (upd H1 D (.lst [])))
    (hq : ∀ i H, Pv i H → SqT K H a xs ∧ SqL K H b ys)
    (hs : ∀ i x y T H, xs[i]? = some x → ys[i]? = some y → Pv i H → H T = none → g (.ref T) (wipe σ vs) (upd H T (.tup [x, y])) fun σ2 H2 => wipe σ2 vs = wipe σ vs ∧ tt σ2 H2 fun b H3 =>
      if b = true then te σ2 H3 fun y H4 => ∃ acc, H4 D = some (.lst acc) ∧ acc.length < sizeLine ∧ Pv (i + 1) (upd H4 D (.lst (acc ++ [y]))) else Pv (i + 1) H3) (hd : ∀ H, Pv xs.length H → Qd H) :
    ∃ W : Nat → Nat → Hp → Prop, (∃ m, W 0 m (upd H1 D (.lst []))) ∧ ∀ i m H, W i m H →
      ((ItzM K a b).stop i H ∧ Qd H) ∨ ((ItzM K a b).go i H ∧ ∃ Nx : Hp → Prop, (∀ H', Nx H' → ∃ m', m' < m ∧ W (i + 1) m' H') ∧ ∀ x H', (ItzM K a b).yld i H x H' → g x (wipe σ vs) H' fun σ2 H2 => wipe σ2 vs = wipe σ vs ∧ tt σ2 H2 fun b H3 =>
        if b = true then te σ2 H3 fun y H4 => ∃ acc, H4 D = some (.lst acc) ∧ acc.length < sizeLine ∧ Nx (upd H4 D (.lst (acc ++ [y]))) else Nx H3) := by
  refine ⟨fun i m H => m = xs.length - i ∧ i ≤ xs.length ∧ Pv i H, ⟨xs.length, by simp, Nat.zero_le _, h0⟩, ?_⟩
  rintro i m H ⟨rfl, hi, p⟩
  obtain ⟨qx, qy⟩ := hq i H p
  by_cases hlt : i < xs.length
  · have hx : xs[i]? = some xs[i] := List.getElem?_eq_getElem hlt
    have hlt2 : i < ys.length := by omega
    have hy : ys[i]? = some ys[i] := List.getElem?_eq_getElem hlt2
    refine .inr ⟨⟨xs, ys, _, _, qx, qy, hx, hy⟩, Pv (i + 1), fun H' p' => ⟨xs.length - (i + 1), by omega, rfl, hlt, p'⟩, fun x H' y => ?_⟩
    obtain ⟨T, x', y', rfl, hT, rfl, f1, f2⟩ := y
    exact hs i x' y' T H (f1 xs qx) (f2 ys qy) p hT
  · have e : i = xs.length := by omega
    subst e
    exact .inl ⟨⟨xs, ys, qx, qy, Nat.le_refl _, by omega, .inl rfl⟩, hd H p⟩
end Rb
/-! A written table of the module: a word's value is a pair of tuples of words. -/
namespace Rb
open PySem PySem.Spec PyProof.Rows L2
/-- the address of the value at a key -/
def adv (K : PySem.W.Frag) (d : Addr) (key : Str) : Addr := match PySem.W.nsIn K d key with
  | some (some (.ref a)) => a
  | _ => 0
/-- the address of an item of a tuple -/
def adi (K : PySem.W.Frag) (a : Addr) (i : Nat) : Addr := match K.lookup a with
  | some ⟨_, _, .seq its _, _⟩ => (match its[i]? with
    | some (.ref b) => b
    | _ => 0)
  | _ => 0
def tupAt (K : PySem.W.Frag) (a : Addr) (vs : List V) : Bool := match K.lookup a with
  | some ⟨.type c, _, .seq its _, _⟩ => decide (c = "tuple") && (decide (its.size ≤ sizeLine) && He.relAll vs its.toList)
  | _ => false
theorem tupAt_ok {K : PySem.W.Frag} {a : Addr} {vs : List V} (h : tupAt K a vs = true) (H : Hp) : SqT K H a vs := by
  unfold tupAt at h
  split at h
  · rename_i c dd its n sl q
    obtain ⟨h1, h2⟩ := and2 h
    obtain ⟨h3, h4⟩ := and2 h2
    exact .inr ⟨_, its, n, q, congrArg Value.type (of_decide_eq_true h1), rfl, of_decide_eq_true h3, He.relAll_ok h4⟩
  · cases h
def formB (x key : Str) (rs ks : List Str) (K : PySem.W.Frag) : Bool :=
  (match PySem.W.nsIn K (He.ga K x) key with
    | some (some u) => He.relB (.ref (adv K (He.ga K x) key)) u
    | _ => false) && (tupAt K (adv K (He.ga K x) key) [.ref (adi K (adv K (He.ga K x) key) 0), .ref (adi K (adv K (He.ga K x) key) 1)] &&
    (tupAt K (adi K (adv K (He.ga K x) key) 0) (rs.map .str) && tupAt K (adi K (adv K (He.ga K x) key) 1) (ks.map .str)))
/-- the table x has a row: the key's value is a pair of tuples of words -/
structure Form (K : PySem.W.Frag) (x key : Str) (rs ks : List Str) : Prop where
  val : ∃ u, PySem.W.nsIn K (He.ga K x) key = some (some u) ∧ RelV (.ref (adv K (He.ga K x) key)) u
  pair : ∀ H, SqT K H (adv K (He.ga K x) key) [.ref (adi K (adv K (He.ga K x) key) 0), .ref (adi K (adv K (He.ga K x) key) 1)]
  fst : ∀ H, SqT K H (adi K (adv K (He.ga K x) key) 0) (rs.map .str)
  snd : ∀ H, SqT K H (adi K (adv K (He.ga K x) key) 1) (ks.map .str)
theorem form_ok {K : PySem.W.Frag} {x key : Str} {rs ks : List Str} (h : (Ex.fact (formB x key rs ks)).ok K = true) : Form K x key rs ks := by
  obtain ⟨h1, h⟩ := and2 (show formB x key rs ks K = true from h)
  obtain ⟨h2, h⟩ := and2 h
  obtain ⟨h3, h4⟩ := and2 h
  refine ⟨?_, tupAt_ok h2, tupAt_ok h3, tupAt_ok h4⟩
  split at h1
  · rename_i u q
    exact ⟨u, q, He.relB_ok h1⟩
  · cases h1
section
variable {X : Cx}
/-- word not in the table, a word that it has -/
theorem op_notIn_form {x : Str} (D : ∃ es n, KDict X.K X.w (He.ga X.K x) es n) :
    OpR X (compareOp .NotIn) (fun a b H Q => ∃ key rs ks, a = .str key ∧ b = .ref (He.ga X.K x) ∧ Form X.K x key rs ks ∧ Q (.bl false) H) := by
  obtain ⟨es, n, D⟩ := D
  intro pins s σ H a b v u Q I ra rb h
  obtain ⟨key, rs, ks, rfl, rfl, F, q⟩ := h
  obtain ⟨u0, e, _⟩ := F.val
  exact op_notIn_kd D pins s σ H _ _ v u Q I ra rb ⟨key, _, rfl, rfl, e, q⟩
def rIxF (K : PySem.W.Frag) (x : Str) : R2 := fun a b H Q => ∃ key rs ks, a = .ref (He.ga K x) ∧ b = .str key ∧ Form K x key rs ks ∧ Q (.ref (adv K (He.ga K x) key)) H
theorem ix_form {x : Str} (D : ∃ es n, KDict X.K X.w (He.ga X.K x) es n) : IxR X (rIxF X.K x) := by
  obtain ⟨es, n, D⟩ := D
  intro value slice pins s σ H a b v u Q I ra rb h hs
  obtain ⟨key, rs, ks, rfl, rfl, F, q⟩ := h
  obtain ⟨u0, e, r⟩ := F.val
  exact ix_kdict value slice pins s σ H _ _ v u Q I ra rb ⟨_, key, _, rfl, rfl, ⟨es, n, u0, D.at_, D.lit, e, r⟩, q⟩ hs
end
end Rb
/-! A type among types; a tuple behind a list. -/
namespace Rb
open PySem PySem.Spec PyProof.Rows L2
/-- types whose own type is known here -/
def tyKnown (n : String) : Bool := n = "int" || (n = "str" || (n = "bool" || (n = "NoneType" || (n = "list" || (n = "tuple" || n = "dict")))))
theorem tyKnown_is {n : String} (h : tyKnown n = true) : ∀ s : Shared, s.TypeIs (.type n) "type" := by
  unfold tyKnown at h
  simp only [Bool.or_eq_true, decide_eq_true_eq] at h
  rcases h with h | h | h | h | h | h | h
  · subst h
    exact TypeEq.meta_int
  · subst h
    exact TypeEq.meta_str
  · subst h
    exact TypeEq.meta_bool
  · subst h
    exact TypeEq.meta_NoneType
  · subst h
    exact TypeEq.meta_list
  · subst h
    exact TypeEq.meta_tuple
  · subst h
    exact TypeEq.meta_dict
theorem eqAt_ty {A : Around} {s : Shared} {a b : String} (ha : tyKnown a = true) (hb : tyKnown b = true) : SeqAt.EqAt A s (.type a) (.type b) (decide (a = b)) := fun prog w E Q h => by
  by_cases e : a = b
  · subst e
    exact SeqAt.EqAt.same _ prog w E Q (by simpa using h)
  · have ne : (Value.type a == Value.type b) = false := beq_eq_false_iff_ne.mpr fun z => e (by injection z)
    rw [decide_eq_false e] at h
    unfold eqBool
    refine wpAny_holding ?_
    refine wpAny_ite_split (fun z => absurd z (by rw [ne]; simp)) (fun _ => ?_)
    exact wpAny_bind (show wpAny (model prog w) A (richCompare .Eq (.type a) (.type b)) _ E s from TypeEq.eq_type_other (tyKnown_is ha) (tyKnown_is hb) ne (wpAny_truthy_bool h))
def isTyU (a : String) (u : Value) : Bool := match u with
  | .type m => decide (m = a)
  | _ => false
theorem any_tys {a : String} : ∀ {ts : List String} {us : List Value}, Vals (ts.map V.ty) us → us.any (isTyU a) = ts.contains a
  | [], _, .nil => rfl
  | t :: ts, _, .cons r q => by
    cases r
    rw [List.any_cons, any_tys q, List.contains_cons]
    show (decide (t = a) || _) = _
    congr 1
    by_cases e : t = a
    · subst e
      simp
    · rw [decide_eq_false e]
      exact (beq_eq_false_iff_ne.mpr fun z => e z.symm).symm
theorem mem_tys {A : Around} {s : Shared} {a : String} (ha : tyKnown a = true) : ∀ {ts : List String} {us : List Value}, Vals (ts.map V.ty) us → ts.all tyKnown = true → ∀ u ∈ us, SeqAt.EqAt A s u (.type a) (isTyU a u)
  | [], _, .nil, _ => fun u hu => by cases hu
  | t :: ts, _, .cons r q, f => fun u hu => by
    rw [List.all_cons, Bool.and_eq_true] at f
    cases r
    rcases List.mem_cons.mp hu with rfl | hu
    · exact eqAt_ty f.1 ha
    · exact mem_tys ha q f.2 u hu
/-- a type in, or not in, a tuple of types -/
def rTyIn (K : PySem.W.Frag) (neg : Bool) : R2 := fun x y H Q => ∃ (a : String) (p : Addr) (ts : List String), x = .ty a ∧ y = .ref p ∧ SqT K H p (ts.map V.ty) ∧ tyKnown a = true ∧ ts.all tyKnown = true ∧ Q (.bl (if neg then !ts.contains a else ts.contains a)) H
section
variable {X : Cx}
theorem op_notInTy : OpR X (compareOp .NotIn) (rTyIn X.K true) := by
  intro pins s σ H x y v u Q I rx ry h
  obtain ⟨a, p, ts, rfl, rfl, hq, fa, fs, q⟩ := h
  cases rx
  cases ry
  obtain ⟨its, r, pl, hz⟩ := I.tuple hq
  refine SeqAt.notIn_tupleAt (isTyU a) pl (fun w hw => mem_tys fa r fs w (by simpa using hw)) ⟨.bl _, H, I, rfl, ?_⟩
  rw [show its.toArray.any (isTyU a) = its.any (isTyU a) by simp, any_tys r]
  exact q
theorem op_inTy : OpR X (compareOp .In) (rTyIn X.K false) := by
  intro pins s σ H x y v u Q I rx ry h
  obtain ⟨a, p, ts, rfl, rfl, hq, fa, fs, q⟩ := h
  cases rx
  cases ry
  obtain ⟨its, r, pl, hz⟩ := I.tuple hq
  refine SeqAt.in_tupleAt (isTyU a) pl (fun w hw => mem_tys fa r fs w (by simpa using hw)) ⟨.bl _, H, I, rfl, ?_⟩
  rw [show its.toArray.any (isTyU a) = its.any (isTyU a) by simp, any_tys r]
  exact q
end
/-! ### xs.extend(a tuple) -/
theorem ext_tup (l : Addr) (items : Array Value) (n : Nat) (b : Addr) (items2 : Array Value) (n2 : Nat) (dd : Option Addr) (sl : Array (Option Value)) (hs0 : ¬(!items.isEmpty && Builtin.List.listTooLong (items.size + items2.size)) = true)
    (hs1 : items.size ≤ sizeLine) (hs2 : items.size + items2.size ≤ sizeLine + 1) :
    Meets (Builtin.«list.extend» ⟨[.ref l, .ref b], []⟩) (fun _ R s => s.heap.get? l = some { cls := .type "list", dict := none, data := .seq items n, slots := #[] } ∧
      s.heap.get? b = some { cls := .type "tuple", dict := dd, data := .seq items2 n2, slots := sl } ∧
      R (.ok (.ret Value.none)) { s with heap := s.heap.update l (Obj.mapSeq fun x => x ++ items2), toks := s.toks }) :=
  .of_wp fun prog w A R s h => by
    obtain ⟨hp, g, d, tk, os⟩ := s
    obtain ⟨hl, hb, h⟩ := h
    have f1 := AutoSeq1.idx_int
    have f2 := AutoSeq1.sub_tuple_tuple
    have f3 := AutoSeq1.sub_list_list
    have f4 := AutoSeq1.sub_tuple_list
    have f5 := AutoSeq1.sub_list_tuple
    have hz' : (items ++ items2).size ≤ sizeLine + 1 := by
      rw [Array.size_append]
      exact hs2
    wp_walk using (wpAny_updateSeq hl rfl (hz := hs1) (_hz' := hz')), AutoSeq1.wpAny_loadPart' hl, AutoSeq1.wpAny_loadPart' hb
    exact ⟨_, rfl, h⟩
def rExtT (K : PySem.W.Frag) : V → List V → Hp → VK → Prop := fun x vs H Q => ∃ l b xs zs, x = .ref l ∧ vs = [.ref b] ∧ H l = some (.lst xs) ∧ SqT K H b zs ∧ xs.length + zs.length ≤ sizeLine ∧ Q .non (upd H l (.lst (xs ++ zs)))
section
variable {X : Cx}
theorem mt_extT : MtM X "list.extend" (rExtT X.K) := by
  intro pins s σ H x vs v us Q I rx rv h
  obtain ⟨l, b, xs, zs, rfl, rfl, hH, hB, hz, q⟩ := h
  cases rx
  obtain ⟨u, rfl, ru⟩ := rv.one
  cases ru
  obtain ⟨z, its, n, r, hl, e⟩ := I.lstM hH
  obtain ⟨its2, r2, pt, hz2⟩ := I.tuple hB
  have hl2 := r2.length
  obtain ⟨o, ho, hc, n2, hd⟩ := pt
  obtain ⟨oc, od, dt, sl⟩ := o
  simp only at hc hd
  subst hc hd
  have hsz : its.toArray.size + its2.toArray.size ≤ sizeLine := by rw [List.size_toArray, List.size_toArray]; omega
  have hlong : ¬ (!its.toArray.isEmpty && Builtin.List.listTooLong (its.toArray.size + its2.toArray.size)) = true := by
    rw [notLongL hsz, Bool.and_false]
    exact Bool.false_ne_true
  refine call_meets F.slot_list_extend ⟨_, e, rfl⟩ F.entry_list_extend (F.args_list_extend_2 _ _)
    (ext_tup l its.toArray n b its2.toArray n2 od sl hlong (by rw [List.size_toArray]; omega) (by omega)) ⟨e, ho, ?_⟩
  refine ⟨.non, _, I.lset (its' := its ++ its2) hH e (by simp) (r.append r2) ?_, rfl, q⟩
  rw [List.length_append]
  omega
end
end Rb
/-! Values: none, whole numbers, words, tuples of values. -/
namespace Rb
open PySem PySem.Spec PyProof.Rows L2
mutual
def noL : PyData → Bool
  | .none => true
  | .bool _ => true
  | .int _ => true
  | .str _ => true
  | .list _ => false
  | .tuple ds => noLs ds
  | .dict _ => false
def noLs : List PyData → Bool
  | [] => true
  | d :: ds => noL d && noLs ds
end
mutual
def sz : PyData → Nat
  | .none => 1
  | .bool _ => 1
  | .int _ => 1
  | .str _ => 1
  | .list _ => 1
  | .tuple ds => szs ds + 1
  | .dict _ => 1
def szs : List PyData → Nat
  | [] => 0
  | d :: ds => sz d + szs ds
end
mutual
/-- what the program takes for a value -/
def isVal : PyData → Bool
  | .none => true
  | .bool _ => false
  | .int _ => true
  | .str _ => true
  | .list _ => false
  | .tuple ds => isVals ds
  | .dict _ => false
def isVals : List PyData → Bool
  | [] => true
  | d :: ds => isVal d && isVals ds
end
theorem noLs_app : ∀ {xs ys : List PyData}, noLs (xs ++ ys) = (noLs xs && noLs ys)
  | [], _ => by simp [noLs]
  | x :: xs, ys => by
    show (noL x && noLs (xs ++ ys)) = (noL x && noLs xs && noLs ys)
    rw [noLs_app, Bool.and_assoc]
theorem isVals_app : ∀ {xs ys : List PyData}, isVals (xs ++ ys) = (isVals xs && isVals ys)
  | [], _ => by simp [isVals]
  | x :: xs, ys => by
    show (isVal x && isVals (xs ++ ys)) = (isVal x && isVals xs && isVals ys)
    rw [isVals_app, Bool.and_assoc]
theorem szs_app : ∀ {xs ys : List PyData}, szs (xs ++ ys) = szs xs + szs ys
  | [], _ => by simp [szs]
  | x :: xs, ys => by
    show sz x + szs (xs ++ ys) = sz x + szs xs + szs ys
    rw [szs_app, Nat.add_assoc]
theorem sz_pos : ∀ d : PyData, 1 ≤ sz d
  | .none => Nat.le_refl _
  | .bool _ => Nat.le_refl _
  | .int _ => Nat.le_refl _
  | .str _ => Nat.le_refl _
  | .list _ => Nat.le_refl _
  | .tuple ds => by
    show 1 ≤ szs ds + 1
    omega
  | .dict _ => Nat.le_refl _
theorem len_szs : ∀ ds : List PyData, ds.length ≤ szs ds
  | [] => Nat.le_refl _
  | d :: ds => by
    have := sz_pos d
    have := len_szs ds
    show ds.length + 1 ≤ sz d + szs ds
    omega
/-- the tuples stay -/
def TSame (K : PySem.W.Frag) (H H' : Hp) : Prop := ∀ a xs, SqT K H a xs → SqT K H' a xs
section
variable {K : PySem.W.Frag} {H H' : Hp}
theorem TSame.refl : TSame K H H := fun _ _ h => h
theorem TSame.trans {H2 : Hp} (a : TSame K H H') (b : TSame K H' H2) : TSame K H H2 := fun _ _ h => b _ _ (a _ _ h)
theorem TSame.same (s : Same H H') : TSame K H H' := fun a xs h => by
  rcases h with (h | ⟨o, h⟩) | h
  · exact .inl (.inl (s _ _ h))
  · exact .inl (.inr ⟨o, s _ _ h⟩)
  · exact .inr h
/-- what is no tuple may be written -/
theorem TSame.upd {p : Addr} {o : HO} (h : ∀ xs, H p ≠ some (.tup xs)) (h2 : ∀ ob xs, H p ≠ some (.frz ob (.tup xs))) : TSame K H (upd H p o) := fun a xs q => by
  rcases q with (q | ⟨ob, q⟩) | q
  · refine .inl (.inl ?_)
    rw [upd_ne fun (e : a = p) => h xs (by rw [← e]; exact q)]
    exact q
  · refine .inl (.inr ⟨ob, ?_⟩)
    rw [upd_ne fun (e : a = p) => h2 ob xs (by rw [← e]; exact q)]
    exact q
  · exact .inr q
theorem TSame.lst {p : Addr} {o : HO} {xs : List V} (h : H p = some (.lst xs)) : TSame K H (L2.upd H p o) :=
  TSame.upd (fun ys e => by rw [h] at e; cases e) fun ob ys e => by rw [h] at e; cases e
mutual
theorem Dp.ts (s : TSame K H H') : ∀ (d : PyData) (v : V), noL d = true → Dp K H v d → Dp K H' v d
  | .none, _, _, h => by
    cases h
    exact .non
  | .bool b, _, _, h => by
    cases h
    exact .bl b
  | .int i, _, _, h => by
    cases h
    exact .int i
  | .str x, _, _, h => by
    cases h
    exact .str x
  | .list ds, _, n, _ => by cases n
  | .tuple ds, _, n, h => by
    cases h with
    | tup hs ha => exact .tup (s _ _ hs) (DpAll.ts s ds _ n ha)
  | .dict _, _, _, h => by cases h
theorem DpAll.ts (s : TSame K H H') : ∀ (ds : List PyData) (vs : List V), noLs ds = true → DpAll K H vs ds → DpAll K H' vs ds
  | [], _, _, h => by
    cases h
    exact .nil
  | d :: ds, _, n, h => by
    obtain ⟨n1, n2⟩ := and2 (show (noL d && noLs ds) = true from n)
    cases h with
    | cons h1 h2 => exact .cons (Dp.ts s d _ n1 h1) (DpAll.ts s ds _ n2 h2)
end
theorem DpAll.len : ∀ {vs : List V} {ds : List PyData}, DpAll K H vs ds → vs.length = ds.length
  | _, _, .nil => rfl
  | _, _, .cons _ t => congrArg (· + 1) (DpAll.len t)
theorem DpAll.app : ∀ {vs ws : List V} {ds es : List PyData}, DpAll K H vs ds → DpAll K H ws es → DpAll K H (vs ++ ws) (ds ++ es)
  | _, _, _, _, .nil, t => t
  | _, _, _, _, .cons h r, t => .cons h (DpAll.app r t)
/-- the last one apart -/
theorem DpAll.last {vs : List V} {ds : List PyData} (h : DpAll K H vs ds) (ne : vs ≠ []) : ∃ ws x es d, vs = ws ++ [x] ∧ ds = es ++ [d] ∧ DpAll K H ws es ∧ Dp K H x d := by
  induction vs generalizing ds with
  | nil => exact absurd rfl ne
  | cons v vs ih =>
    cases h with
    | @cons v vs d ds h1 h2 =>
      cases vs with
      | nil =>
        cases h2
        exact ⟨[], v, [], d, rfl, rfl, .nil, h1⟩
      | cons v2 vs2 =>
        obtain ⟨ws, x, es, d2, e1, e2, a, b⟩ := ih h2 (by intro z; cases z)
        exact ⟨v :: ws, x, d :: es, d2, by rw [e1]; rfl, by rw [e2]; rfl, .cons h1 a, b⟩
def tyOf : PyData → String
  | .none => "NoneType"
  | .bool _ => "bool"
  | .int _ => "int"
  | .str _ => "str"
  | .list _ => "list"
  | .tuple _ => "tuple"
  | .dict _ => "dict"
theorem Dp.ty {v : V} : ∀ {d : PyData}, Dp K H v d → TyB K H v (tyOf d)
  | _, .non => .non
  | _, .bl b => .bl b
  | _, .int i => .int i
  | _, .str x => .str x
  | _, .lst h _ => .lst h
  | _, .tup h _ => .tup h
theorem tyOf_known : ∀ d : PyData, tyKnown (tyOf d) = true
  | .none => (by decide : tyKnown "NoneType" = true)
  | .bool _ => (by decide : tyKnown "bool" = true)
  | .int _ => (by decide : tyKnown "int" = true)
  | .str _ => (by decide : tyKnown "str" = true)
  | .list _ => (by decide : tyKnown "list" = true)
  | .tuple _ => (by decide : tyKnown "tuple" = true)
  | .dict _ => (by decide : tyKnown "dict" = true)
end
end Rb
/-! Data that stays, a list's item that is added to. -/
namespace Rb
open PySem PySem.Spec PyProof.Rows L2
/-- xs[i], the index from the left, as what is added to -/
def rGetL (K : PySem.W.Frag) : V → V → Hp → VK → Prop := fun x y H Q => ∃ p xs i v, x = .ref p ∧ y = .int i ∧ 0 ≤ i ∧ i < 2 ^ 63 ∧ SqL K H p xs ∧ xs[i.toNat]? = some v ∧ Q v H
theorem get_list {X : Cx} : PGet X (rGetL X.K) := by
  intro pins s σ H x y v u Q I rx ry h
  obtain ⟨p, xs, i, z, rfl, rfl, h0, h63, hq, he, q⟩ := h
  cases rx
  obtain ⟨t, rfl⟩ := ry
  obtain ⟨its, r, pl, hz⟩ := I.list hq
  obtain ⟨w, ew, rw'⟩ := r.get he
  exact wpAny_getItem_list pl.isList h0 h63 (by simpa using ew) ⟨z, H, I, rw', q⟩
section
variable {K : PySem.W.Frag} {H H' : Hp}
mutual
theorem Dp.same (s : Same H H') : ∀ (d : PyData) (v : V), Dp K H v d → Dp K H' v d
  | .none, _, h => by
    cases h
    exact .non
  | .bool b, _, h => by
    cases h
    exact .bl b
  | .int i, _, h => by
    cases h
    exact .int i
  | .str x, _, h => by
    cases h
    exact .str x
  | .list ds, _, h => by
    cases h with
    | lst hs ha => exact .lst (Same.seq s hs) (DpAll.same s ds _ ha)
  | .tuple ds, _, h => by
    cases h with
    | tup hs ha => exact .tup (Same.seqT s hs) (DpAll.same s ds _ ha)
  | .dict _, _, h => by cases h
theorem DpAll.same (s : Same H H') : ∀ (ds : List PyData) (vs : List V), DpAll K H vs ds → DpAll K H' vs ds
  | [], _, h => by
    cases h
    exact .nil
  | d :: ds, _, h => by
    cases h with
    | cons h1 h2 => exact .cons (Dp.same s d _ h1) (DpAll.same s ds _ h2)
end
theorem SqL.tx {a : Addr} {xs : List V} (h : SqL K H a xs) : TyX K H (.ref a) (.type "list") := by
  rcases h with (h | ⟨o, h⟩) | ⟨o, its, n, hk, hc, _⟩
  · exact .base (.lst h)
  · exact .base (.frz h)
  · exact .kList hk hc
theorem SqT.tx {a : Addr} {xs : List V} (h : SqT K H a xs) : TyX K H (.ref a) (.type "tuple") := by
  rcases h with (h | ⟨o, h⟩) | ⟨o, its, n, hk, hc, _⟩
  · exact .base (.tup h)
  · exact .fTuple h
  · exact .kTuple hk hc
theorem Dp.tx {v : V} : ∀ {d : PyData}, Dp K H v d → TyX K H v (.type (tyOf d))
  | _, .non => .base .non
  | _, .bl b => .base (.bl b)
  | _, .int i => .base (.int i)
  | _, .str x => .base (.str x)
  | _, .lst h _ => SqL.tx h
  | _, .tup h _ => SqT.tx h
theorem dp_ints : ∀ l : List Int, DpAll K H (l.map V.int) (l.map PyData.int)
  | [] => .nil
  | _ :: r => .cons (.int _) (dp_ints r)
end
theorem lay_ints : ∀ l : List Int, PyData.canLayAll0 (l.map PyData.int) = true
  | [] => rfl
  | i :: r => by
    show PyData.canLayAll0 (PyData.int i :: r.map PyData.int) = true
    simp only [PyData.canLayAll0, PyData.canLay0, lay_ints r, Bool.true_and]
theorem dep_ints : ∀ l : List Int, PyData.depthAll (l.map PyData.int) = 0
  | [] => rfl
  | i :: r => by
    show PyData.depthAll (PyData.int i :: r.map PyData.int) = 0
    simp only [PyData.depthAll, PyData.depth, dep_ints r]
    rfl
abbrev dBlk (l : List Int) : PyData := .tuple (l.map PyData.int)
theorem lay_blks : ∀ ls : List (List Int), PyData.canLayAll0 (ls.map dBlk) = true
  | [] => rfl
  | l :: r => by
    show PyData.canLayAll0 (.tuple (l.map PyData.int) :: r.map dBlk) = true
    simp only [PyData.canLayAll0, PyData.canLay0, lay_ints l, lay_blks r, Bool.true_and]
theorem dep_blks : ∀ ls : List (List Int), PyData.depthAll (ls.map dBlk) ≤ 1
  | [] => Nat.zero_le _
  | l :: r => by
    have := dep_blks r
    show PyData.depthAll (.tuple (l.map PyData.int) :: r.map dBlk) ≤ 1
    simp only [PyData.depthAll, PyData.depth, dep_ints l]
    omega
theorem shaped_blk (l : List Int) : SeqAt.shaped (dBlk l) = true := by
  simp only [SeqAt.shaped, dBlk, PyData.canLay0, lay_ints, PyData.depth, dep_ints]
  rfl
theorem shaped_tab (ls : List (List Int)) : SeqAt.shaped (.tuple (ls.map dBlk)) = true := by
  have := dep_blks ls
  simp only [SeqAt.shaped, PyData.canLay0, lay_blks, PyData.depth, Bool.true_and, decide_eq_true_eq]
  exact decide_eq_true (Nat.le_trans (Nat.succ_le_succ this) (by decide : 2 ≤ 64))
/-- a tape that is read number by number -/
structure TpS where
  l : Addr
  ns : List Int
  pos : Nat
  rest : Int
  seed : Int
def TpS.ho (s : TpS) : HO := .lst [.ref s.l, .int (s.pos : Int), .int s.rest, .int s.seed]
structure TpOk (H : Hp) (t : Addr) (s : TpS) : Prop where
  ot : H t = some s.ho
  ol : H s.l = some (.lst (s.ns.map V.int))
  ne : s.l ≠ t
  hl : s.ns.length ≤ 63
  hp : s.pos ≤ s.ns.length
  h0 : 0 ≤ s.rest
  h1 : 0 ≤ s.seed
  h2 : s.seed < 2147483647
def Tp (H : Hp) (t l : Addr) : Prop := ∃ s, s.l = l ∧ TpOk H t s
/-- all but what stands at t stays -/
def Kp (t : Addr) (H H' : Hp) : Prop := ∀ b o, H b = some o → b ≠ t → H' b = some o
theorem Kp.refl {t : Addr} {H : Hp} : Kp t H H := fun _ _ h _ => h
theorem Kp.trans {t : Addr} {H H1 H2 : Hp} (a : Kp t H H1) (b : Kp t H1 H2) : Kp t H H2 := fun c o h n => b c o (a c o h n) n
theorem Kp.of {t : Addr} {H H' : Hp} (s : Same H H') : Kp t H H' := fun b o h _ => s b o h
theorem Kp.upd {t : Addr} {H H' : Hp} {o : HO} (a : Kp t H H') : Kp t H (upd H' t o) := fun b u h n => by
  rw [upd_ne n]
  exact a b u h n
theorem Kp.new {t p : Addr} {H H' : Hp} {o : HO} (a : Kp t H H') (ht : H t ≠ none) (h : H' p = none) : Kp t H (L2.upd H' p o) := fun b u e n => by
  have q := a b u e n
  rw [upd_ne (ne_of_none q h)]
  exact q
theorem Kp.free {t p : Addr} {H H' : Hp} (a : Kp t H H') (ht : H' t ≠ none) (h : H' p = none) : H p = none := by
  cases e : H p with
  | none => rfl
  | some o =>
    by_cases c : p = t
    · subst c
      exact absurd h ht
    · rw [a p o e c] at h
      cases h
theorem TpOk.same {H H' : Hp} {t : Addr} {s : TpS} (h : TpOk H t s) (k : Same H H') : TpOk H' t s := ⟨k _ _ h.ot, k _ _ h.ol, h.ne, h.hl, h.hp, h.h0, h.h1, h.h2⟩
theorem Tp.same {H H' : Hp} {t l : Addr} (h : Tp H t l) (k : Same H H') : Tp H' t l := h.imp fun _ x => ⟨x.1, x.2.same k⟩
theorem Tp.at {H : Hp} {t l : Addr} (h : Tp H t l) : H t ≠ none := by
  obtain ⟨s, _, h⟩ := h
  rw [h.ot]
  exact fun z => nomatch z
theorem Tp.atl {H : Hp} {t l : Addr} (h : Tp H t l) : H l ≠ none := by
  obtain ⟨s, rfl, h⟩ := h
  rw [h.ol]
  exact fun z => nomatch z
theorem Tp.lst {H : Hp} {t l : Addr} (h : Tp H t l) : ∃ xs, H t = some (.lst xs) := by
  obtain ⟨s, _, h⟩ := h
  exact ⟨_, h.ot⟩
theorem Tp.nt {H : Hp} {t l p : Addr} (h : Tp H t l) (hp : H p = none) : p ≠ t := fun z => h.at (by rw [← z]; exact hp)
theorem Tp.nl {H : Hp} {t l p : Addr} (h : Tp H t l) (hp : H p = none) : p ≠ l := fun z => h.atl (by rw [← z]; exact hp)
theorem Tp.upd {H : Hp} {t l p : Addr} {o : HO} (h : Tp H t l) (n1 : p ≠ t) (n2 : p ≠ l) : Tp (upd H p o) t l := by
  obtain ⟨s, rfl, h⟩ := h
  exact ⟨s, rfl, by rw [upd_ne n1.symm]; exact h.ot, by rw [upd_ne n2.symm]; exact h.ol, h.ne, h.hl, h.hp, h.h0, h.h1, h.h2⟩
/-- what is no list stays when a list is written -/
theorem Kp.ts {K : PySem.W.Frag} {t l : Addr} {H H' : Hp} (k : Kp t H H') (h : Tp H t l) : TSame K H H' := fun a xs q => by
  obtain ⟨ys, e⟩ := h.lst
  rcases q with (q | ⟨ob, q⟩) | q
  · exact .inl (.inl (k _ _ q fun z => by subst z; rw [e] at q; cases q))
  · exact .inl (.inr ⟨ob, k _ _ q fun z => by subst z; rw [e] at q; cases q⟩)
  · exact .inr q
def spNext : Sp := fun vs H Q _ => ∃ t l m, vs = [.ref t, .int m] ∧ Tp H t l ∧ 0 < m ∧ m < 1000 ∧ ∀ r H', Kp t H H' → Tp H' t l → 0 ≤ r → r < m → Q (.int r) H'
theorem _root_.L2.Dp.ty {K : PySem.W.Frag} {H : Hp} {v : V} {d : PyData} (h : Dp K H v d) : TyB K H v (tyOf d) := Rb.Dp.ty h
theorem _root_.L2.Dp.tx {K : PySem.W.Frag} {H : Hp} {v : V} {d : PyData} (h : Dp K H v d) : TyX K H v (.type (tyOf d)) := Rb.Dp.tx h
theorem _root_.L2.Dp.same {K : PySem.W.Frag} {H H' : Hp} {v : V} {d : PyData} (h : Dp K H v d) (s : Same H H') : Dp K H' v d := Rb.Dp.same s d v h
theorem _root_.L2.DpAll.same {K : PySem.W.Frag} {H H' : Hp} {v : List V} {d : List PyData} (h : DpAll K H v d) (s : Same H H') : DpAll K H' v d := Rb.DpAll.same s d v h
theorem eqv_self {d : PyData} (h : SeqAt.shaped d = true) : PyData.eqv d d = true := SeqAt.eqv_refl d (SeqAt.canLay_of_shaped h)
end Rb
namespace Rb
open PySem PySem.Spec PyProof.Rows L2
def top (i : Nat) : Stmt := PySem.Challenge.pw_ringbound_k13_requests_on_a_plain_table.main.body.getD i (.Pass ⟨0, 0, 0, 0⟩)
abbrev s_is_integer : Stmt := top 1
def d_is_integer : He.DefD := ⟨("is_integer", none), "is_integer", "is_integer", defArgs s_is_integer, defBody s_is_integer, defScope s_is_integer, [], []⟩
theorem sc_is_integer : FnScope ["value"] ["value"] (defScope s_is_integer) := ⟨rfl, rfl, rfl, by decide +kernel, rfl, by decide +kernel, by decide +kernel⟩
abbrev s_is_number : Stmt := top 2
def d_is_number : He.DefD := ⟨("is_number", none), "is_number", "is_number", defArgs s_is_number, defBody s_is_number, defScope s_is_number, [], []⟩
theorem sc_is_number : FnScope ["value", "limit"] ["value", "limit"] (defScope s_is_number) := ⟨rfl, rfl, rfl, by decide +kernel, rfl, by decide +kernel, by decide +kernel⟩
abbrev s_is_contents : Stmt := top 6
def d_is_contents : He.DefD := ⟨("is_contents", none), "is_contents", "is_contents", defArgs s_is_contents, defBody s_is_contents, defScope s_is_contents, [], []⟩
theorem sc_is_contents : FnScope ["part", "value"] ["part"] (defScope s_is_contents) := ⟨rfl, rfl, rfl, by decide +kernel, rfl, by decide +kernel, by decide +kernel⟩
abbrev s_is_request : Stmt := top 7
def d_is_request : He.DefD := ⟨("is_request", none), "is_request", "is_request", defArgs s_is_request, defBody s_is_request, defScope s_is_request, [], []⟩
theorem sc_is_request : FnScope ["value", "word", "block", "rest"] ["value"] (defScope s_is_request) := ⟨rfl, rfl, rfl, by decide +kernel, rfl, by decide +kernel, by decide +kernel⟩
abbrev s_new_table : Stmt := top 8
def d_new_table : He.DefD := ⟨("new_table", none), "new_table", "new_table", defArgs s_new_table, defBody s_new_table, defScope s_new_table, [], []⟩
theorem sc_new_table : FnScope [] [] (defScope s_new_table) := ⟨rfl, rfl, rfl, by decide +kernel, rfl, by decide +kernel, by decide +kernel⟩
abbrev s_answer_of : Stmt := top 9
def d_answer_of : He.DefD := ⟨("answer_of", none), "answer_of", "answer_of", defArgs s_answer_of, defBody s_answer_of, defScope s_answer_of, [], []⟩
theorem sc_answer_of : FnScope ["table", "request"] ["table", "request"] (defScope s_answer_of) := ⟨rfl, rfl, rfl, by decide +kernel, rfl, by decide +kernel, by decide +kernel⟩
abbrev s_after_request : Stmt := top 10
def d_after_request : He.DefD := ⟨("after_request", none), "after_request", "after_request", defArgs s_after_request, defBody s_after_request, defScope s_after_request, [], []⟩
theorem sc_after_request : FnScope ["table", "request", "_", "block", "contents"] ["table", "request"] (defScope s_after_request) := ⟨rfl, rfl, rfl, by decide +kernel, rfl, by decide +kernel, by decide +kernel⟩
abbrev s__law_next : Stmt := top 12
def d__law_next : He.DefD := ⟨("_law_next", none), "_law_next", "_law_next", defArgs s__law_next, defBody s__law_next, defScope s__law_next, [], []⟩
theorem sc__law_next : FnScope ["tape", "many", "rest", "cell"] ["tape", "many"] (defScope s__law_next) := ⟨rfl, rfl, rfl, by decide +kernel, rfl, by decide +kernel, by decide +kernel⟩
abbrev s__law_requests : Stmt := top 13
def d__law_requests : He.DefD := ⟨("_law_requests", none), "_law_requests", "_law_requests", defArgs s__law_requests, defBody s__law_requests, defScope s__law_requests, [], []⟩
theorem sc__law_requests : FnScope ["tape", "many", "requests", "turn", "block", "k"] ["tape", "many"] (defScope s__law_requests) := ⟨rfl, rfl, rfl, by decide +kernel, rfl, by decide +kernel, by decide +kernel⟩
abbrev s__law_bent : Stmt := top 15
def d__law_bent : He.DefD := ⟨("_law_bent", none), "_law_bent", "_law_bent", defArgs s__law_bent, defBody s__law_bent, defScope s__law_bent, [], []⟩
theorem sc__law_bent : FnScope ["tape", "request", "parts", "way"] ["tape", "request"] (defScope s__law_bent) := ⟨rfl, rfl, rfl, by decide +kernel, rfl, by decide +kernel, by decide +kernel⟩
abbrev s__law_integer : Stmt := top 16
def d__law_integer : He.DefD := ⟨("_law_integer", none), "_law_integer", "_law_integer", defArgs s__law_integer, defBody s__law_integer, defScope s__law_integer, [], []⟩
theorem sc__law_integer : FnScope ["value"] ["value"] (defScope s__law_integer) := ⟨rfl, rfl, rfl, by decide +kernel, rfl, by decide +kernel, by decide +kernel⟩
abbrev s__law_due : Stmt := top 17
def d__law_due : He.DefD := ⟨("_law_due", none), "_law_due", "_law_due", defArgs s__law_due, defBody s__law_due, defScope s__law_due, [], []⟩
theorem sc__law_due : FnScope ["parts", "value"] ["parts"] (defScope s__law_due) := ⟨rfl, rfl, rfl, by decide +kernel, rfl, by decide +kernel, by decide +kernel⟩
abbrev s_law : Stmt := top 18
def d_law : He.DefD := ⟨("law", none), "law", "law", defArgs s_law, defBody s_law, defScope s_law, [], []⟩
theorem sc_law : FnScope ["script", "tape", "table", "plain", "request", "before", "due", "after", "bent", "told", "block"] ["script"] (defScope s_law) := ⟨rfl, rfl, rfl, by decide +kernel, rfl, by decide +kernel, by decide +kernel⟩
structure Top (K : PySem.W.Frag) (mg : Str → Option Value) : Prop where
  b_type : mg "type" = none
  b_int : mg "int" = none
  g_is_integer : mg "is_integer" = some (.ref (He.ga K "is_integer"))
  b_tuple : mg "tuple" = none
  b_len : mg "len" = none
  c_CELLS : ∃ u, mg "CELLS" = some u ∧ RelV (.int 4) u
  b_all : mg "all" = none
  b_str : mg "str" = none
  g_is_number : mg "is_number" = some (.ref (He.ga K "is_number"))
  c_BLOCKS : ∃ u, mg "BLOCKS" = some u ∧ RelV (.int 8) u
  g_is_contents : mg "is_contents" = some (.ref (He.ga K "is_contents"))
  b_abs : mg "abs" = none
  b_range : mg "range" = none
  g__law_next : mg "_law_next" = some (.ref (He.ga K "_law_next"))
  b_list : mg "list" = none
  b_isinstance : mg "isinstance" = none
  b_bool : mg "bool" = none
  g__law_integer : mg "_law_integer" = some (.ref (He.ga K "_law_integer"))
  g_new_table : mg "new_table" = some (.ref (He.ga K "new_table"))
  g__law_requests : mg "_law_requests" = some (.ref (He.ga K "_law_requests"))
  g_answer_of : mg "answer_of" = some (.ref (He.ga K "answer_of"))
  g_is_request : mg "is_request" = some (.ref (He.ga K "is_request"))
  g_after_request : mg "after_request" = some (.ref (He.ga K "after_request"))
  g__law_bent : mg "_law_bent" = some (.ref (He.ga K "_law_bent"))
  g__law_due : mg "_law_due" = some (.ref (He.ga K "_law_due"))
  g_law : mg "law" = some (.ref (He.ga K "law"))
  d_is_integer : ∃ fd, FunD K "is_integer" "is_integer" (defArgs s_is_integer) (defBody s_is_integer) (defScope s_is_integer) [] [] (He.ga K "is_integer") fd
  d_is_number : ∃ fd, FunD K "is_number" "is_number" (defArgs s_is_number) (defBody s_is_number) (defScope s_is_number) [] [] (He.ga K "is_number") fd
  d_is_contents : ∃ fd, FunD K "is_contents" "is_contents" (defArgs s_is_contents) (defBody s_is_contents) (defScope s_is_contents) [] [] (He.ga K "is_contents") fd
  d_is_request : ∃ fd, FunD K "is_request" "is_request" (defArgs s_is_request) (defBody s_is_request) (defScope s_is_request) [] [] (He.ga K "is_request") fd
  d_new_table : ∃ fd, FunD K "new_table" "new_table" (defArgs s_new_table) (defBody s_new_table) (defScope s_new_table) [] [] (He.ga K "new_table") fd
  d_answer_of : ∃ fd, FunD K "answer_of" "answer_of" (defArgs s_answer_of) (defBody s_answer_of) (defScope s_answer_of) [] [] (He.ga K "answer_of") fd
  d_after_request : ∃ fd, FunD K "after_request" "after_request" (defArgs s_after_request) (defBody s_after_request) (defScope s_after_request) [] [] (He.ga K "after_request") fd
  d__law_next : ∃ fd, FunD K "_law_next" "_law_next" (defArgs s__law_next) (defBody s__law_next) (defScope s__law_next) [] [] (He.ga K "_law_next") fd
  d__law_requests : ∃ fd, FunD K "_law_requests" "_law_requests" (defArgs s__law_requests) (defBody s__law_requests) (defScope s__law_requests) [] [] (He.ga K "_law_requests") fd
  d__law_bent : ∃ fd, FunD K "_law_bent" "_law_bent" (defArgs s__law_bent) (defBody s__law_bent) (defScope s__law_bent) [] [] (He.ga K "_law_bent") fd
  d__law_integer : ∃ fd, FunD K "_law_integer" "_law_integer" (defArgs s__law_integer) (defBody s__law_integer) (defScope s__law_integer) [] [] (He.ga K "_law_integer") fd
  d__law_due : ∃ fd, FunD K "_law_due" "_law_due" (defArgs s__law_due) (defBody s__law_due) (defScope s__law_due) [] [] (He.ga K "_law_due") fd
  d_law : ∃ fd, FunD K "law" "law" (defArgs s_law) (defBody s_law) (defScope s_law) [] [] (He.ga K "law") fd
def fa : List He.Fa := [.free "type",
  .free "int",
  .glo "is_integer",
  .free "tuple",
  .free "len",
  .int "CELLS" 4,
  .free "all",
  .free "str",
  .glo "is_number",
  .int "BLOCKS" 8,
  .glo "is_contents",
  .free "abs",
  .free "range",
  .glo "_law_next",
  .free "list",
  .free "isinstance",
  .free "bool",
  .glo "_law_integer",
  .glo "new_table",
  .glo "_law_requests",
  .glo "answer_of",
  .glo "is_request",
  .glo "after_request",
  .glo "_law_bent",
  .glo "_law_due",
  .glo "law"]
def exs : List Ex := []
def fn : List He.DefD := [d_is_integer,
  d_is_number,
  d_is_contents,
  d_is_request,
  d_new_table,
  d_answer_of,
  d_after_request,
  d__law_next,
  d__law_requests,
  d__law_bent,
  d__law_integer,
  d__law_due,
  d_law]
def ts : List He.Tab := []
theorem top_of {w : World} {h : Heap} {K : PySem.W.Frag} {mg : Str → Option Value} (X : K.In h) (G : h.Ns mainGlobals mg) (c : SaysR fa fn ts exs w K) : Top K mg where
  b_type := He.free_ok X G (c.t.d.fact 0 (f := .free "type") rfl)
  b_int := He.free_ok X G (c.t.d.fact 1 (f := .free "int") rfl)
  g_is_integer := He.glo_ok X G (c.t.d.fact 2 (f := .glo "is_integer") rfl)
  b_tuple := He.free_ok X G (c.t.d.fact 3 (f := .free "tuple") rfl)
  b_len := He.free_ok X G (c.t.d.fact 4 (f := .free "len") rfl)
  c_CELLS := int_at X G (c.t.d.fact 5 (f := .int "CELLS" 4) rfl)
  b_all := He.free_ok X G (c.t.d.fact 6 (f := .free "all") rfl)
  b_str := He.free_ok X G (c.t.d.fact 7 (f := .free "str") rfl)
  g_is_number := He.glo_ok X G (c.t.d.fact 8 (f := .glo "is_number") rfl)
  c_BLOCKS := int_at X G (c.t.d.fact 9 (f := .int "BLOCKS" 8) rfl)
  g_is_contents := He.glo_ok X G (c.t.d.fact 10 (f := .glo "is_contents") rfl)
  b_abs := He.free_ok X G (c.t.d.fact 11 (f := .free "abs") rfl)
  b_range := He.free_ok X G (c.t.d.fact 12 (f := .free "range") rfl)
  g__law_next := He.glo_ok X G (c.t.d.fact 13 (f := .glo "_law_next") rfl)
  b_list := He.free_ok X G (c.t.d.fact 14 (f := .free "list") rfl)
  b_isinstance := He.free_ok X G (c.t.d.fact 15 (f := .free "isinstance") rfl)
  b_bool := He.free_ok X G (c.t.d.fact 16 (f := .free "bool") rfl)
  g__law_integer := He.glo_ok X G (c.t.d.fact 17 (f := .glo "_law_integer") rfl)
  g_new_table := He.glo_ok X G (c.t.d.fact 18 (f := .glo "new_table") rfl)
  g__law_requests := He.glo_ok X G (c.t.d.fact 19 (f := .glo "_law_requests") rfl)
  g_answer_of := He.glo_ok X G (c.t.d.fact 20 (f := .glo "answer_of") rfl)
  g_is_request := He.glo_ok X G (c.t.d.fact 21 (f := .glo "is_request") rfl)
  g_after_request := He.glo_ok X G (c.t.d.fact 22 (f := .glo "after_request") rfl)
  g__law_bent := He.glo_ok X G (c.t.d.fact 23 (f := .glo "_law_bent") rfl)
  g__law_due := He.glo_ok X G (c.t.d.fact 24 (f := .glo "_law_due") rfl)
  g_law := He.glo_ok X G (c.t.d.fact 25 (f := .glo "law") rfl)
  d_is_integer := c.t.d.def_ 0 (d := d_is_integer) rfl
  d_is_number := c.t.d.def_ 1 (d := d_is_number) rfl
  d_is_contents := c.t.d.def_ 2 (d := d_is_contents) rfl
  d_is_request := c.t.d.def_ 3 (d := d_is_request) rfl
  d_new_table := c.t.d.def_ 4 (d := d_new_table) rfl
  d_answer_of := c.t.d.def_ 5 (d := d_answer_of) rfl
  d_after_request := c.t.d.def_ 6 (d := d_after_request) rfl
  d__law_next := c.t.d.def_ 7 (d := d__law_next) rfl
  d__law_requests := c.t.d.def_ 8 (d := d__law_requests) rfl
  d__law_bent := c.t.d.def_ 9 (d := d__law_bent) rfl
  d__law_integer := c.t.d.def_ 10 (d := d__law_integer) rfl
  d__law_due := c.t.d.def_ 11 (d := d__law_due) rfl
  d_law := c.t.d.def_ 12 (d := d_law) rfl
def loose : List Str := (["is_integer", "is_number", "CELLS", "BLOCKS", "is_contents", "is_request", "new_table", "answer_of", "after_request", "_law_next", "_law_requests", "_law_acts", "_law_bent", "_law_integer", "_law_due"] : List Str)
abbrev lawAt : Nat := 18
end Rb
namespace Rb
open PySem PySem.Spec PyProof.Rows L2
theorem atI_n {α : Type} {xs : List α} {j : Nat} {x : α} (h : xs[j]? = some x) : atI xs (j : Int) = some x := by
  unfold atI ixN
  have hj : j < xs.length := (List.getElem?_eq_some_iff.mp h).1
  rw [if_pos (by omega), if_pos (by omega)]
  simpa using h
section
variable {P : Program} {w : World} {K : PySem.W.Frag} {mg : Str → Option Value} {base : Heap}
theorem ok_law_next (T : Top K mg) : FnC P w K mg base CX0 1 (He.ga K "_law_next") spNext := by
  refine fnc0 T.d__law_next sc__law_next (fun _ _ _ _ _ _ us hl => match us, hl with | [_, _], _ => rfl) (fun vs H Q E h => ?_) (fun cdv A outer s H vs Q E hr h => ?_)
  · obtain ⟨t, l, m, rfl, _⟩ := h
    rfl
  · obtain ⟨t, l, m, rfl, ⟨s0, hl0, hT⟩, h0, h1, k⟩ := h
    refine ⟨_, (pss_cons (ps_set (i := 2) sc__law_next.nd rfl (Or.inl rfl) (pe_ix ix_list (pv 0) pe_int (fun _ _ => rfl)))
    (pss_cons (ps_if (pt_cmpR op_gt (pv 2) pe_int (nomark _)) (pss_cons (ps_asg (pe_op op_fdiv (pv 2) (pv 1)) (pg_sub (pv 0) pe_int set_list))
    (pss_one (ps_ret (pe_op op_mod (pe_callTy call_int1 (by rfl) T.b_int (by decide +kernel) (pa_cons (pv 2) pa_nil)) (pv 1))))) pss_nil)
    (pss_cons (ps_set (i := 3) sc__law_next.nd rfl (Or.inl rfl) pe_int)
    (pss_cons (ps_join (ps_if (pt_cmpR op_lt (pe_ix ix_list (pv 0) pe_int (fun _ _ => rfl)) (pe_callB call_len_seq (by rfl) T.b_len PySem.boot_len (pa_cons (pe_ix ix_list (pv 0) pe_int (fun _ _ => rfl)) pa_nil)) (nomark _)) (pss_cons (ps_set (i := 3) sc__law_next.nd rfl (Or.inl rfl) (pe_callB call_abs (by rfl) T.b_abs (by decide +kernel) (pa_cons (pe_ix ix_list (pe_ix ix_list (pv 0) pe_int (fun _ _ => rfl)) (pe_ix ix_list (pv 0) pe_int (fun _ _ => rfl)) (fun _ _ => rfl)) pa_nil)))
    (pss_one (ps_augS (pv 0) pe_int get_list pe_int ip_add set_list))) pss_nil))
    (pss_cons (ps_if (pt_cmpR op_ge (pv 3) (pe_op op_pow pe_int pe_int) (nomark _)) (pss_cons (ps_asg (pe_op op_fdiv (pv 3) (pv 1)) (pg_sub (pv 0) pe_int set_list))
    (pss_one (ps_ret (pe_op op_mod (pe_callTy call_int1 (by rfl) T.b_int (by decide +kernel) (pa_cons (pv 3) pa_nil)) (pv 1))))) pss_nil)
    (pss_cons (ps_asg (pe_op op_mod (pe_callTy call_int1 (by rfl) T.b_int (by decide +kernel) (pa_cons (pe_op op_add (pe_op op_add (pe_op op_mul (pe_ix ix_list (pv 0) pe_int (fun _ _ => rfl)) pe_int) (pe_op op_mul (pv 3) pe_int)) pe_int) pa_nil)) pe_int) (pg_sub (pv 0) pe_int set_list))
    (pss_one (ps_ret (pe_op op_mod (pe_callTy call_int1 (by rfl) T.b_int (by decide +kernel) (pa_cons (pe_op op_fdiv (pe_op op_mod (pe_op op_mul (pe_ix ix_list (pv 0) pe_int (fun _ _ => rfl)) pe_int) pe_int) pe_int) pa_nil)) (pv 1)))))))))), ?_⟩
    have hq := SqL.of (K := K) hT.ot
    refine ⟨_, rfl, t, _, _, _, rfl, rfl, hq, rfl, ?_⟩
    refine ⟨_, rfl, _, _, rfl, rfl, _, rfl, ?_⟩
    refine ite2 (fun c => ?_) (fun c => ?_)
    · refine ⟨_, rfl, _, rfl, _, _, rfl, rfl, ⟨h0, by omega⟩, _, rfl, t, _, _, 2, rfl, rfl, hT.ot, rfl, ?_⟩
      refine ⟨_, rfl, .inl ⟨_, rfl, _, rfl, _, _, rfl, rfl, h0, ?_⟩⟩
      refine k _ _ (Kp.refl.upd) ⟨{ s0 with rest := s0.rest / m }, hl0, upd_same, ?_, hT.ne, hT.hl, hT.hp, Int.ediv_nonneg hT.h0 (Int.le_of_lt h0), hT.h1, hT.h2⟩ (Int.emod_nonneg _ (Int.ne_of_gt h0)) (Int.emod_lt_of_pos _ h0)
      rw [upd_ne hT.ne]
      exact hT.ol
    have c0 : s0.rest = 0 := by
      have := of_decide_eq_false (by simpa using c : decide ((0 : Int) < s0.rest) = false)
      have := hT.h0
      omega
    refine ⟨fun σ' H' => ∃ s1 cell x2, TpOk H' t s1 ∧ s1.l = l ∧ Kp t H H' ∧ 0 ≤ cell ∧ σ' = [some (.ref t), some (.int m), x2, some (.int cell)], ?_, ?_⟩
    · refine ⟨_, rfl, t, _, _, _, rfl, rfl, hq, rfl, _, rfl, t, _, _, _, rfl, rfl, hq, rfl, s0.l, _, rfl, .inl (SqL.of hT.ol), _, _, rfl, rfl, _, rfl, ?_⟩
      rw [List.length_map]
      refine ite2 (fun c => ?_) (fun c => ?_)
      · have hlt : s0.pos < s0.ns.length := by
          have := of_decide_eq_true c
          omega
        have hx : (s0.ns.map V.int)[s0.pos]? = some (V.int s0.ns[s0.pos]) := by
          rw [List.getElem?_map, List.getElem?_eq_getElem hlt]
          rfl
        have hp := hT.hp
        have hl := hT.hl
        refine ⟨_, rfl, t, _, _, _, rfl, rfl, hq, rfl, _, rfl, t, _, _, _, rfl, rfl, hq, rfl, s0.l, _, _, _, rfl, rfl, SqL.of hT.ol, atI_n hx, _, rfl, ?_⟩
        refine ⟨_, rfl, t, _, _, _, rfl, rfl, by decide, by decide, hq, rfl, _, _, rfl, rfl, t, _, _, 1, rfl, rfl, hT.ot, rfl, ?_⟩
        refine ⟨{ s0 with pos := s0.pos + 1 }, _, _, ⟨upd_same, ?_, hT.ne, hT.hl, hlt, hT.h0, hT.h1, hT.h2⟩, hl0, Kp.refl.upd, ?_, rfl⟩
        · rw [upd_ne hT.ne]
          exact hT.ol
        · split <;> omega
      · exact ⟨s0, _, _, hT, hl0, Kp.refl, Int.le_refl _, rfl⟩
    rintro σ' H' ⟨s1, cell, x2, hT1, hl1, kp, hc, rfl⟩
    have hq1 := SqL.of (K := K) hT1.ot
    refine ⟨_, rfl, _, _, rfl, rfl, ⟨by decide, by decide, by decide⟩, _, _, rfl, rfl, _, rfl, ?_⟩
    refine ite2 (fun c => ?_) (fun c => ?_)
    · refine ⟨_, rfl, _, rfl, _, _, rfl, rfl, ⟨h0, by omega⟩, _, rfl, t, _, _, 2, rfl, rfl, hT1.ot, rfl, ?_⟩
      refine ⟨_, rfl, .inl ⟨_, rfl, _, rfl, _, _, rfl, rfl, h0, ?_⟩⟩
      refine k _ _ kp.upd ⟨{ s1 with rest := cell / m }, hl1, upd_same, ?_, hT1.ne, hT1.hl, hT1.hp, Int.ediv_nonneg hc (Int.le_of_lt h0), hT1.h1, hT1.h2⟩ (Int.emod_nonneg _ (Int.ne_of_gt h0)) (Int.emod_lt_of_pos _ h0)
      rw [upd_ne hT1.ne]
      exact hT1.ol
    have g1 := hT1.h1
    have g2 := hT1.h2
    refine ⟨_, rfl, t, _, _, _, rfl, rfl, hq1, rfl, _, _, rfl, rfl, .inl ⟨by omega, by omega⟩, _, rfl, _, _, rfl, rfl, .inr ⟨by decide, by decide⟩, _, _, rfl, rfl, _, _, rfl, rfl, .inl ⟨_, rfl, _, _, rfl, rfl, (by show (0 : Int) < 2147483647; decide), ?_⟩⟩
    refine ⟨_, rfl, t, _, _, 3, rfl, rfl, hT1.ot, rfl, ?_⟩
    have e2 : upd H' t (HO.lst ([V.ref s1.l, .int (s1.pos : Int), .int s1.rest, .int s1.seed].set 3 (V.int ((s1.seed * 48271 + cell * 69621 + 11) % 2147483647)))) t = _ := upd_same
    have b0 := Int.emod_nonneg (s1.seed * 48271 + cell * 69621 + 11) (show (2147483647 : Int) ≠ 0 by decide)
    have b1 := Int.emod_lt_of_pos (s1.seed * 48271 + cell * 69621 + 11) (show (0 : Int) < 2147483647 by decide)
    refine ⟨_, rfl, t, _, _, _, rfl, rfl, SqL.of e2, rfl, _, _, rfl, rfl, .inl ⟨by omega, by omega⟩, _, _, rfl, rfl, (by show (0 : Int) < 2147483647; decide), _, _, rfl, rfl, ⟨by decide, by decide⟩, .inl ⟨_, rfl, _, rfl, _, _, rfl, rfl, h0, ?_⟩⟩
    refine k _ _ kp.upd ⟨{ s1 with seed := (s1.seed * 48271 + cell * 69621 + 11) % 2147483647 }, hl1, upd_same, ?_, hT1.ne, hT1.hl, hT1.hp, hT1.h0, b0, b1⟩ (Int.emod_nonneg _ (Int.ne_of_gt h0)) (Int.emod_lt_of_pos _ h0)
    rw [upd_ne hT1.ne]
    exact hT1.ol
end
end Rb
namespace Rb
open PySem PySem.Spec PyProof.Rows L2
section
variable {P : Program} {w : World} {K : PySem.W.Frag} {mg : Str → Option Value} {base : Heap}
def spVeI (K : PySem.W.Frag) : Sp := fun vs H Q _ => ∃ (a C : Addr), vs = [.ref a] ∧ OexC K C ∧ H a = some (exo a C none) ∧ Q .non H
def spIsInt (K : PySem.W.Frag) : Sp := fun vs H Q _ => ∃ (v : V) (N : String), vs = [v] ∧ TyB K H v N ∧ Q (.bl (decide (N = "int"))) H
theorem ok_is_integer (T : Top K mg) : FnC P w K mg base CX0 1 (He.ga K "is_integer") (spIsInt K) := by
  refine fnc0 T.d_is_integer sc_is_integer (fun _ _ _ _ _ _ us hl => match us, hl with | [_], _ => rfl) (fun vs H Q E h => ?_) (fun cdv A outer s H vs Q E hr h => ?_)
  · obtain ⟨v, N, rfl, _⟩ := h
    rfl
  · obtain ⟨v, N, rfl, hN, k⟩ := h
    refine ⟨_, (pss_one (ps_ret (pe_cmpR op_isTyB (pe_callTy call_type1 (by rfl) T.b_type (by decide +kernel) (pa_cons (pv 0) pa_nil)) (pe_bltn (v := .ty "int") (by rfl) T.b_int (by decide +kernel) rfl) (nomark _)))), ?_⟩
    exact ⟨_, rfl, _, N, rfl, hN, _, _, rfl, rfl, k⟩
def isNum : V → Int → Bool
  | .int i, l => decide (0 ≤ i) && decide (i < l)
  | _, _ => false
def spIsNum (K : PySem.W.Frag) : Sp := fun vs H Q _ => ∃ (v : V) (N : String) (l : Int), vs = [v, .int l] ∧ TyB K H v N ∧ Q (.bl (isNum v l)) H
theorem ok_is_number (T : Top K mg) : FnC P w K mg base CX0 2 (He.ga K "is_number") (spIsNum K) := by
  have G_is_integer := ok_is_integer (P := P) (w := w) (base := base) T
  refine fnc0 T.d_is_number sc_is_number (fun _ _ _ _ _ _ us hl => match us, hl with | [_, _], _ => rfl) (fun vs H Q E h => ?_) (fun cdv A outer s H vs Q E hr h => ?_)
  · obtain ⟨v, N, l, rfl, _⟩ := h
    rfl
  · obtain ⟨v, N, l, rfl, hN, k⟩ := h
    refine ⟨_, (pss_one (ps_ret (pe_and (pe_f G_is_integer hr (by decide) (by rfl) T.g_is_integer pass0 (pa_cons (pv 0) pa_nil)) (pe_one (pe_chain op_le op_lt pe_int (pv 0) (pv 1)))))), ?_⟩
    refine ⟨_, rfl, _, N, rfl, hN, _, rfl, ?_⟩
    cases hN with
    | int i =>
      refine ⟨_, rfl, _, _, rfl, rfl, _, rfl, ?_⟩
      show if decide ((0 : Int) ≤ i) = true then _ else _
      by_cases c : (0 : Int) ≤ i
      · rw [decide_eq_true c]
        refine ⟨_, rfl, _, _, rfl, rfl, ?_⟩
        have e : isNum (.int i) l = decide (i < l) := by
          show (decide (0 ≤ i) && decide (i < l)) = _
          rw [decide_eq_true c, Bool.true_and]
        rw [e] at k
        exact k
      · rw [decide_eq_false c]
        have e : isNum (.int i) l = false := by
          show (decide (0 ≤ i) && decide (i < l)) = _
          rw [decide_eq_false c, Bool.false_and]
        rw [e] at k
        exact k
    | _ => exact k
end
end Rb
namespace Rb
open PySem PySem.Spec PyProof.Rows L2
def isIntD : PyData → Bool
  | .int _ => true
  | _ => false
def numD (l : Int) : PyData → Bool
  | .int i => decide (0 ≤ i) && decide (i < l)
  | _ => false
def contD : PyData → Bool
  | .tuple ds => decide (ds.length = 4) && ds.all isIntD
  | _ => false
def contOne : List PyData → Bool
  | [c] => contD c
  | _ => false
def reqL : List PyData → Bool
  | .str w :: b :: rest => numD 8 b && (if decide (V.str w = V.str "read") = true then rest.isEmpty else (decide (V.str w = V.str "write") && contOne rest))
  | _ => false
def reqD : PyData → Bool
  | .tuple ds => reqL ds
  | _ => false
theorem isNum_D {K : PySem.W.Frag} {H : Hp} {v : V} {d : PyData} {l : Int} (h : Dp K H v d) : isNum v l = numD l d := by
  cases h <;> rfl
theorem neI {n m : Nat} : (!decide (V.int (n : Int) = V.int (m : Int))) = !decide (n = m) := by
  congr 1
  by_cases c : n = m
  · subst c
    rw [decide_eq_true rfl, decide_eq_true rfl]
  · rw [decide_eq_false c, decide_eq_false]
    intro z
    injection z with z
    omega
theorem eqN {n m : Nat} : (decide (V.int (n : Int) = V.int (m : Int))) = decide (n = m) := by
  by_cases c : n = m
  · subst c
    rw [decide_eq_true rfl, decide_eq_true rfl]
  · rw [decide_eq_false c, decide_eq_false]
    intro z
    injection z with z
    omega
theorem dpAll_len {K : PySem.W.Frag} {H : Hp} {vs : List V} {ds : List PyData} (h : DpAll K H vs ds) : vs.length = ds.length := Rb.DpAll.len h
theorem dpAll_at {K : PySem.W.Frag} {H : Hp} : ∀ {vs : List V} {ds : List PyData} {i : Nat} {v : V}, DpAll K H vs ds → vs[i]? = some v → ∃ d, ds[i]? = some d ∧ Dp K H v d
  | _, _, _, _, .nil, e => by simp at e
  | _, _, 0, _, .cons h _, e => by
    simp at e
    subst e
    exact ⟨_, rfl, h⟩
  | _, _, i + 1, v, .cons _ t, e => by
    obtain ⟨d, a, b⟩ := dpAll_at (i := i) (v := v) t (by simpa using e)
    exact ⟨d, by simpa using a, b⟩
theorem dpAll_two {K : PySem.W.Frag} {H : Hp} : ∀ {vs : List V} {ds : List PyData}, DpAll K H vs ds → 2 ≤ vs.length → ∃ x1 x2 xr d1 d2 dr, vs = x1 :: x2 :: xr ∧ ds = d1 :: d2 :: dr ∧ Dp K H x1 d1 ∧ Dp K H x2 d2 ∧ DpAll K H xr dr
  | _, _, .nil, l => absurd l (by decide)
  | _, _, .cons _ .nil, l => absurd l (by simp)
  | _, _, .cons a (.cons b r), _ => ⟨_, _, _, _, _, _, rfl, rfl, a, b, r⟩
theorem dpAll_one {K : PySem.W.Frag} {H : Hp} : ∀ {vs : List V} {ds : List PyData}, DpAll K H vs ds → vs.length = 1 → ∃ x d, vs = [x] ∧ ds = [d] ∧ Dp K H x d
  | _, _, .nil, l => absurd l (by decide)
  | _, _, .cons a .nil, _ => ⟨_, _, rfl, rfl, a⟩
  | _, _, .cons a (.cons b r), l => absurd l (by simp)
theorem tyInt (d : PyData) : decide (tyOf d = "int") = isIntD d := by
  cases d <;> rfl
theorem tyTup (d : PyData) : decide (tyOf d = "tuple") = (match d with | .tuple _ => true | _ => false) := by
  cases d <;> rfl
def spCont (K : PySem.W.Frag) : Sp := fun vs H Q _ => ∃ v d, vs = [v] ∧ Dp K H v d ∧ ∀ H', Same H H' → Q (.bl (contD d)) H'
def spReq (K : PySem.W.Frag) : Sp := fun vs H Q _ => ∃ v d, vs = [v] ∧ Dp K H v d ∧ ∀ H', Same H H' → Q (.bl (reqD d)) H'
section
variable {P : Program} {w : World} {K : PySem.W.Frag} {mg : Str → Option Value} {base : Heap}
theorem ok_is_contents (T : Top K mg) : FnC P w K mg base CX0 2 (He.ga K "is_contents") (spCont K) := by
  have G_is_integer := ok_is_integer (P := P) (w := w) (base := base) T
  refine fnc0 T.d_is_contents sc_is_contents (fun _ _ _ _ _ _ us hl => match us, hl with | [_], _ => rfl) (fun vs H Q E h => ?_) (fun cdv A outer s H vs Q E hr h => ?_)
  · obtain ⟨v, d, rfl, _⟩ := h
    rfl
  · obtain ⟨v, d, rfl, hd, k⟩ := h
    refine ⟨_, (pss_one (ps_ret (pe_and (pe_cmpR op_isTyB (pe_callTy call_type1 (by rfl) T.b_type (by decide +kernel) (pa_cons (pv 0) pa_nil)) (pe_bltn (v := .ty "tuple") (by rfl) T.b_tuple (by decide +kernel) rfl) (nomark _)) (pe_and (pe_cmpR op_eq (pe_callB call_len_seq (by rfl) T.b_len PySem.boot_len (pa_cons (pv 0) pa_nil)) (pe_gc (by rfl) T.c_CELLS) (nomark _)) (pe_one (pe_callB (cr_all rfl) (by rfl) T.b_all (by decide +kernel) (pa_cons (pe_lc (own := [("value", 1)]) (g := gName 1) (tt := tYes) rfl sc_is_contents.nd (pi_tup (pv 0)) (blkOk_by (N := ["part", "value"]) (sc := defScope s_is_contents) (by decide +kernel)) (fun _ _ _ _ _ => (pg_name (i := 1) sc_is_contents.nd rfl (Or.inl rfl))) (fun _ _ _ _ _ => pts_nil) (fun _ _ _ _ _ => (pe_f G_is_integer hr (by decide) (by rfl) T.g_is_integer pass0 (pa_cons (pv 1) pa_nil)))) pa_nil))))))), ?_⟩
    refine ⟨_, rfl, _, _, rfl, hd.ty, _, _, rfl, rfl, _, rfl, ?_⟩
    show if decide (tyOf d = "tuple") = true then _ else _
    rw [tyTup]
    cases hd with
    | @tup a xs ds hs ha =>
      have el := dpAll_len ha
      refine ⟨_, rfl, a, xs, rfl, .inr hs, rfl, _, rfl, ?_⟩
      show if decide (V.int (xs.length : Int) = V.int ((4 : Nat) : Int)) = true then _ else _
      rw [eqN]
      have k' : ∀ H', Same H H' → Q (.bl (decide (ds.length = 4) && ds.all isIntD)) H' := k
      by_cases c : xs.length = 4
      · rw [decide_eq_true c]
        rw [decide_eq_true (el.symm.trans c), Bool.true_and] at k'
        refine ⟨_, rfl, a, rfl, ⟨xs, hs⟩, fun D hD => ?_⟩
        refine lc_tup (xs := xs) (fun i H2 => H2 D = some (.lst (((ds.take i).map isIntD).map V.bl)) ∧ Same H H2) ⟨upd_same, Same.new (Same.refl H) hD⟩ (fun i H2 _ h => Same.seqT h.2 hs) ?_ ?_
        · rintro i x H2 hx ⟨e2, s2⟩
          obtain ⟨e, he, hxe⟩ := dpAll_at ha hx
          have hi : i < 4 := by
            have := (List.getElem?_eq_some_iff.mp hx).1
            omega
          refine ⟨rfl, _, rfl, x, _, rfl, (hxe.same s2).ty, _, e2, ?_, ?_, Same.put s2 hD⟩
          · rw [List.length_map, List.length_map, List.length_take]
            exact Nat.lt_of_le_of_lt (Nat.min_le_left _ _) (Nat.lt_trans hi (by decide))
          · rw [upd_same, List.take_add_one, he, List.map_append, List.map_append, tyInt]
            rfl
        · rintro H2 ⟨e2, s2⟩
          have e3 : ds.take xs.length = ds := by
            rw [el]
            exact List.take_length
          rw [e3] at e2
          refine ⟨D, ds.map isIntD, rfl, SqL.of e2, ?_⟩
          have e4 : (ds.map isIntD).all id = ds.all isIntD := by
            rw [List.all_map]
            rfl
          rw [e4]
          exact k' _ s2
      · rw [decide_eq_false c]
        rw [decide_eq_false (by omega : ¬ ds.length = 4)] at k'
        exact k' _ (Same.refl H)
    | _ => exact k _ (Same.refl H)
theorem ok_is_request (T : Top K mg) : FnC P w K mg base CX0 3 (He.ga K "is_request") (spReq K) := by
  have G_is_number := ok_is_number (P := P) (w := w) (base := base) T
  have G_is_contents := ok_is_contents (P := P) (w := w) (base := base) T
  refine fnc0 T.d_is_request sc_is_request (fun _ _ _ _ _ _ us hl => match us, hl with | [_], _ => rfl) (fun vs H Q E h => ?_) (fun cdv A outer s H vs Q E hr h => ?_)
  · obtain ⟨v, d, rfl, _⟩ := h
    rfl
  · obtain ⟨v, d, rfl, hd, k⟩ := h
    refine ⟨_, (pss_cons (ps_if (PW.pt (pw_or (pt_cmpR op_notTyB (pe_callTy call_type1 (by rfl) T.b_type (by decide +kernel) (pa_cons (pv 0) pa_nil)) (pe_bltn (v := .ty "tuple") (by rfl) T.b_tuple (by decide +kernel) rfl) (nomark _)) (pw_or1 (pt_cmpR op_lt (pe_callB call_len_seq (by rfl) T.b_len PySem.boot_len (pa_cons (pv 0) pa_nil)) pe_int (nomark _))))) (pss_one (ps_ret pe_bl)) pss_nil)
    (pss_cons (ps_asg (pv 0) (pg_star (n := 2) rfl (pgs_cons (pg_name (i := 1) sc_is_request.nd rfl (Or.inl rfl)) (pgs_cons (pg_name (i := 2) sc_is_request.nd rfl (Or.inl rfl)) (pgs_cons (pg_name (i := 3) sc_is_request.nd rfl (Or.inl rfl)) pgs_nil)))))
    (pss_cons (ps_if (PW.pt (pw_or (pt_cmpR op_notTyB (pe_callTy call_type1 (by rfl) T.b_type (by decide +kernel) (pa_cons (pv 1) pa_nil)) (pe_bltn (v := .ty "str") (by rfl) T.b_str (by decide +kernel) rfl) (nomark _)) (pw_or1 (pt_not (pt_val (pe_f G_is_number hr (by decide) (by rfl) T.g_is_number pass0 (pa_cons (pv 2) (pa_cons (pe_gc (by rfl) T.c_BLOCKS) pa_nil)))))))) (pss_one (ps_ret pe_bl)) pss_nil)
    (pss_cons (ps_if (pt_cmpR op_eq (pv 1) pe_str (nomark _)) (pss_one (ps_ret (pe_notT (pv 3)))) pss_nil)
    (pss_one (ps_ret (pe_and (pe_cmpR op_eq (pv 1) pe_str (nomark _)) (pe_and (pe_cmpR op_eq (pe_callB call_len_seq (by rfl) T.b_len PySem.boot_len (pa_cons (pv 3) pa_nil)) pe_int (nomark _)) (pe_one (pe_f G_is_contents hr (by decide) (by rfl) T.g_is_contents pass0 (pa_cons (pe_ix ix_list (pv 3) pe_int (fun _ _ => rfl)) pa_nil))))))))))), ?_⟩
    refine ⟨_, rfl, _, _, rfl, hd.ty, _, _, rfl, rfl, _, rfl, ?_⟩
    show if (!decide (tyOf d = "tuple")) = true then _ else _
    rw [tyTup]
    cases hd with
    | @tup a xs ds hs ha =>
      have el := dpAll_len ha
      refine ⟨_, rfl, a, xs, rfl, .inr hs, _, _, rfl, rfl, _, rfl, ?_⟩
      refine ite2 (fun c => ?_) (fun c => ?_)
      · have c' : xs.length < 2 := by
          have := of_decide_eq_true c
          omega
        have e : reqL ds = false := by
          match ds, (show ds.length < 2 by omega) with
          | [], _ => rfl
          | [x], _ => cases x <;> rfl
        have k' : ∀ H', Same H H' → Q (.bl (reqL ds)) H' := k
        rw [e] at k'
        exact k' _ (Same.refl H)
      have c' : 2 ≤ xs.length := by
        have := of_decide_eq_false (by simpa using c : decide ((xs.length : Int) < 2) = false)
        omega
      obtain ⟨x1, x2, xr, d1, d2, dr, rfl, rfl, h1, h2, hr2⟩ := dpAll_two ha c'
      refine ⟨_, rfl, a, _, rfl, hs, c', fun D hD => ⟨_, _, rfl, _, _, rfl, _, _, rfl, rfl, ?_⟩⟩
      have s1 := Same.new (o := HO.lst xr) (Same.refl H) hD
      have elr := dpAll_len hr2
      refine ⟨_, rfl, _, _, rfl, (h1.same s1).ty, _, _, rfl, rfl, _, rfl, ?_⟩
      have k' : ∀ H', Same H H' → Q (.bl (reqL (d1 :: d2 :: dr))) H' := k
      cases h1 with
      | str sw =>
        have k2 : ∀ H', Same H H' → Q (.bl (numD 8 d2 && (if decide (V.str sw = V.str "read") = true then dr.isEmpty else (decide (V.str sw = V.str "write") && contOne dr)))) H' := k'
        refine ⟨_, rfl, _, _, _, rfl, (h2.same s1).ty, _, rfl, ?_⟩
        rw [isNum_D h2]
        cases e8 : numD 8 d2
        · rw [e8] at k2
          exact k2 _ s1
        rw [e8, Bool.true_and] at k2
        refine ⟨_, rfl, rfl, _, rfl, ?_⟩
        show if decide (V.str sw = V.str "read") = true then _ else _
        cases er : decide (V.str sw = V.str "read")
        · rw [er, if_neg (by decide)] at k2
          refine ⟨_, rfl, rfl, _, rfl, ?_⟩
          show if decide (V.str sw = V.str "write") = true then _ else _
          cases ew : decide (V.str sw = V.str "write")
          · rw [ew] at k2
            exact k2 _ s1
          rw [ew, Bool.true_and] at k2
          refine ⟨_, rfl, D, _, rfl, .inl (SqL.of upd_same), rfl, _, rfl, ?_⟩
          show if decide (V.int (xr.length : Int) = V.int ((1 : Nat) : Int)) = true then _ else _
          rw [eqN]
          by_cases c1 : xr.length = 1
          · rw [decide_eq_true c1]
            obtain ⟨x3, d3, rfl, rfl, h3⟩ := dpAll_one hr2 c1
            refine ⟨_, rfl, D, _, _, _, rfl, rfl, SqL.of upd_same, rfl, _, d3, rfl, h3.same s1, fun H2 s2 => k2 _ (s1.trans s2)⟩
          · rw [decide_eq_false c1]
            have e0 : contOne dr = false := by
              match dr, (show dr.length ≠ 1 by omega) with
              | [], _ => rfl
              | [x], c => exact absurd rfl c
              | _ :: _ :: _, _ => rfl
            rw [e0] at k2
            exact k2 _ s1
        · rw [er, if_pos rfl] at k2
          refine ⟨_, rfl, !xr.isEmpty, .inl ⟨_, SqL.of upd_same, rfl⟩, ?_⟩
          have e0 : (!(!xr.isEmpty)) = dr.isEmpty := by
            rw [Bool.not_not]
            cases hr2 <;> rfl
          rw [e0]
          exact k2 _ s1
      | _ => exact k' _ s1
    | _ => exact k _ (Same.refl H)
end
end Rb
namespace Rb
open PySem PySem.Spec PyProof.Rows L2
/-! ### requests and the plain table -/
inductive Rq where
  | rd (b : Nat)
  | wr (b : Nat) (l : List Int)
def Rq.d : Rq → PyData
  | .rd b => .tuple [.str "read", .int (b : Int)]
  | .wr b l => .tuple [.str "write", .int (b : Int), dBlk l]
def Rq.ok : Rq → Prop
  | .rd b => b < 8
  | .wr b l => b < 8 ∧ l.length = 4
def Tab (K : PySem.W.Frag) (H : Hp) (v : V) (ls : List (List Int)) : Prop := ∃ t xs, v = .ref t ∧ H t = some (.tup xs) ∧ DpAll K H xs (ls.map dBlk) ∧ ls.length = 8
theorem Tab.same {K : PySem.W.Frag} {H H' : Hp} {v : V} {ls : List (List Int)} (h : Tab K H v ls) (s : Same H H') : Tab K H' v ls := by
  obtain ⟨t, xs, e, ht, hd, hl⟩ := h
  exact ⟨t, xs, e, s _ _ ht, hd.same s, hl⟩
theorem Tab.dp {K : PySem.W.Frag} {H : Hp} {v : V} {ls : List (List Int)} (h : Tab K H v ls) : Dp K H v (.tuple (ls.map dBlk)) := by
  obtain ⟨t, xs, rfl, ht, hd, hl⟩ := h
  exact .tup (SqT.of ht) hd
def ansD (ls : List (List Int)) : Rq → PyData
  | .rd b => .tuple [.str "ok", dBlk (ls[b]?.getD [])]
  | .wr _ _ => .tuple [.str "ok", .none]
def aftL (ls : List (List Int)) : Rq → List (List Int)
  | .rd _ => ls
  | .wr b l => ls.set b l
theorem atI_n2 {α : Type} {xs : List α} {j : Nat} {x : α} (h : xs[j]? = some x) : atI xs (j : Int) = some x := atI_n h
/-- a slice of a tuple, told -/
theorem slice_p {K : PySem.W.Frag} {a : Addr} {xs : List V} {lo hi : Option Int} {H : Hp} {Q : VK} (e : H a = some (.tup xs))
    (k : ∀ (p : Addr) (H' : Hp), Same H H' → H' p = some (.tup (cutV xs lo hi)) → Q (.ref p) H') : rSlA K (.ref a) lo hi H Q := by
  refine ⟨a, xs, rfl, SqT.of e, fun c => k a H (Same.refl H) ?_, fun _ p hp => k p _ (Same.new (Same.refl H) hp) upd_same⟩
  obtain ⟨c1, c2⟩ := c
  have : cutV xs lo hi = xs := by
    unfold cutV
    rw [c1, c2, List.drop_zero, Nat.sub_zero, List.take_length]
  rw [this]
  exact e
/-- two tuples in a row -/
theorem cat_t {K : PySem.W.Frag} {a b : Addr} {xs ys : List V} {H : Hp} {Q : VK} (e : H a = some (.tup xs)) (f : H b = some (.tup ys)) (l : xs.length + ys.length ≤ sizeLine)
    (k : ∀ (p : Addr) (H' : Hp), Same H H' → H' p = some (.tup (xs ++ ys)) → Q (.ref p) H') : rCatA K (.ref a) (.ref b) H Q := by
  refine ⟨a, b, xs, ys, rfl, rfl, SqT.of e, SqT.of f, l, fun c => ?_, fun c d => ?_, fun c d p hp => k p _ (Same.new (Same.refl H) hp) upd_same⟩
  · subst c
    exact k b H (Same.refl H) f
  · subst d
    refine k a H (Same.refl H) ?_
    rw [List.append_nil]
    exact e
theorem len8 {xs : List V} (h : xs.length = 8) : ∃ a b c d e f g i, xs = [a, b, c, d, e, f, g, i] := by
  match xs, h with
  | [a, b, c, d, e, f, g, i], _ => exact ⟨a, b, c, d, e, f, g, i, rfl⟩
theorem lt8 {j : Nat} (h : j < 8) : j = 0 ∨ j = 1 ∨ j = 2 ∨ j = 3 ∨ j = 4 ∨ j = 5 ∨ j = 6 ∨ j = 7 := by omega
theorem cut_set {xs : List V} {b : Nat} {v : V} (h : xs.length = 8) (hb : b < 8) : (cutV xs none (some (b : Int)) ++ [v]) ++ cutV xs (some ((b : Int) + 1)) none = xs.set b v := by
  obtain ⟨x0, x1, x2, x3, x4, x5, x6, x7, rfl⟩ := len8 h
  rcases lt8 hb with rfl | rfl | rfl | rfl | rfl | rfl | rfl | rfl <;> rfl
theorem dpAll_set {K : PySem.W.Frag} {H : Hp} : ∀ {vs : List V} {ds : List PyData} {i : Nat} {v : V} {d : PyData}, DpAll K H vs ds → Dp K H v d → DpAll K H (vs.set i v) (ds.set i d)
  | _, _, _, _, _, .nil, _ => .nil
  | _, _, 0, _, _, .cons _ t, h => .cons h t
  | _, _, i + 1, _, _, .cons a t, h => .cons a (dpAll_set t h)
def spNewT (K : PySem.W.Frag) : Sp := fun vs H Q _ => vs = [] ∧ ∀ v H', Same H H' → Tab K H' v (List.replicate 8 [0, 0, 0, 0]) → Q v H'
def spAns (K : PySem.W.Frag) : Sp := fun vs H Q _ => ∃ tv rv ls r, vs = [tv, rv] ∧ Tab K H tv ls ∧ Dp K H rv (Rq.d r) ∧ r.ok ∧ ∀ v H', Same H H' → Dp K H' v (ansD ls r) → Q v H'
def spAft (K : PySem.W.Frag) : Sp := fun vs H Q _ => ∃ tv rv ls r, vs = [tv, rv] ∧ Tab K H tv ls ∧ Dp K H rv (Rq.d r) ∧ r.ok ∧ ∀ v H', Same H H' → Tab K H' v (aftL ls r) → Q v H'
/-- a request's parts -/
theorem rq_parts {K : PySem.W.Frag} {H : Hp} {rv : V} {r : Rq} (h : Dp K H rv r.d) : ∃ q, rv = .ref q ∧ match r with
    | .rd b => SqT K H q [.str "read", .int (b : Int)]
    | .wr b l => ∃ c, SqT K H q [.str "write", .int (b : Int), c] ∧ Dp K H c (dBlk l) := by
  cases r with
  | rd b =>
    cases h with
    | @tup a xs ds hs ha =>
      cases ha with
      | cons h1 h2 =>
        cases h1
        cases h2 with
        | cons h3 h4 =>
          cases h3
          cases h4
          exact ⟨a, rfl, hs⟩
  | wr b l =>
    cases h with
    | @tup a xs ds hs ha =>
      cases ha with
      | cons h1 h2 =>
        cases h1
        cases h2 with
        | cons h3 h4 =>
          cases h3
          cases h4 with
          | cons h5 h6 =>
            cases h6
            exact ⟨a, rfl, _, hs, h5⟩
section
variable {P : Program} {w : World} {K : PySem.W.Frag} {mg : Str → Option Value} {base : Heap}
theorem ok_new_table (T : Top K mg) : FnC P w K mg base CX0 1 (He.ga K "new_table") (spNewT K) := by
  refine fnc0 T.d_new_table sc_new_table (fun _ _ _ _ _ _ us hl => match us, hl with | [], _ => rfl) (fun vs H Q E h => ?_) (fun cdv A outer s H vs Q E hr h => ?_)
  · obtain ⟨rfl, _⟩ := h
    rfl
  · obtain ⟨rfl, k⟩ := h
    refine ⟨_, (pss_one (ps_ret (pe_op (r := rRepT K) op_repT (pe_tup (pa_cons (pe_op (r := rRepT K) op_repT (pe_tup (pa_cons pe_int pa_nil)) (pe_gc (by rfl) T.c_CELLS)) pa_nil)) (pe_gc (by rfl) T.c_BLOCKS)))), ?_⟩
    refine ⟨(by show 1 ≤ sizeLine; decide), fun p1 h1 => ⟨p1, 4, [.int 0], rfl, rfl, SqT.of upd_same, (fun z => nomatch z), by decide, by decide, by decide, fun p2 h2 => ⟨(by show 1 ≤ sizeLine; decide), fun p3 h3 => ?_⟩⟩⟩
    have s1 := Same.new (o := HO.tup [V.int 0]) (Same.refl H) h1
    have s2 := Same.new (o := HO.tup [V.int 0, .int 0, .int 0, .int 0]) s1 (s1.free h2)
    have s3 := Same.new (o := HO.tup [V.ref p2]) s2 (s2.free h3)
    refine ⟨p3, 8, [.ref p2], rfl, rfl, SqT.of upd_same, (fun z => nomatch z), by decide, by decide, (by show 1 ≤ 1000; decide), fun p4 h4 => ?_⟩
    have s4 := Same.new (o := HO.tup [V.ref p2, .ref p2, .ref p2, .ref p2, .ref p2, .ref p2, .ref p2, .ref p2]) s3 (s3.free h4)
    refine k _ _ s4 ⟨p4, _, rfl, upd_same, ?_, rfl⟩
    have e2 : (upd (upd (upd H p1 (.tup [V.int 0])) p2 (.tup [V.int 0, .int 0, .int 0, .int 0])) p3 (.tup [V.ref p2])) p2 = some (.tup [V.int 0, .int 0, .int 0, .int 0]) := by
      rw [upd_ne (free_upd h3).1.symm, upd_same]
    have e3 : (upd (upd (upd (upd H p1 (.tup [V.int 0])) p2 (.tup [V.int 0, .int 0, .int 0, .int 0])) p3 (.tup [V.ref p2])) p4 (.tup [V.ref p2, .ref p2, .ref p2, .ref p2, .ref p2, .ref p2, .ref p2, .ref p2])) p2 = some (.tup [V.int 0, .int 0, .int 0, .int 0]) := by
      rw [upd_ne (ne_of_none e2 h4)]
      exact e2
    have d : Dp K _ (.ref p2) (dBlk [0, 0, 0, 0]) := .tup (SqT.of e3) (dp_ints [0, 0, 0, 0])
    exact .cons d (.cons d (.cons d (.cons d (.cons d (.cons d (.cons d (.cons d .nil)))))))
theorem ok_answer_of (T : Top K mg) : FnC P w K mg base CX0 1 (He.ga K "answer_of") (spAns K) := by
  refine fnc0 T.d_answer_of sc_answer_of (fun _ _ _ _ _ _ us hl => match us, hl with | [_, _], _ => rfl) (fun vs H Q E h => ?_) (fun cdv A outer s H vs Q E hr h => ?_)
  · obtain ⟨tv, rv, ls, r, rfl, _⟩ := h
    rfl
  · obtain ⟨tv, rv, ls, r, rfl, ht, hr2, hok, k⟩ := h
    refine ⟨_, (pss_cons (ps_if (pt_cmpR op_eq (pe_ix ix_tup (pv 1) pe_int (fun _ _ => rfl)) pe_str (nomark _)) (pss_one (ps_ret (pe_tup (pa_cons pe_str (pa_cons (pe_ix ix_tup (pv 0) (pe_ix ix_tup (pv 1) pe_int (fun _ _ => rfl)) (fun _ _ => rfl)) pa_nil))))) pss_nil)
    (pss_one (ps_ret (pe_tup (pa_cons pe_str (pa_cons pe_non pa_nil)))))), ?_⟩
    obtain ⟨q, rfl, hq⟩ := rq_parts hr2
    cases r with
    | rd b =>
      have hb : b < 8 := hok
      have hq : SqT K H q [.str "read", .int (b : Int)] := hq
      obtain ⟨t, xs, rfl, e, hd, hl⟩ := ht
      have el : xs.length = 8 := by rw [dpAll_len hd, List.length_map, hl]
      have hx : xs[b]? = some (xs[b]'(by omega)) := List.getElem?_eq_getElem (by omega)
      obtain ⟨d, hd1, hd2⟩ := dpAll_at hd hx
      have ed : d = dBlk (ls[b]?.getD []) := by
        rw [List.getElem?_map] at hd1
        rw [List.getElem?_eq_getElem (by omega)] at hd1 ⊢
        exact (Option.some.inj hd1).symm
      subst ed
      refine ⟨_, rfl, q, _, _, _, rfl, rfl, hq, rfl, rfl, _, rfl, ?_⟩
      refine ⟨_, rfl, _, rfl, q, _, _, _, rfl, rfl, hq, rfl, t, _, _, _, rfl, rfl, SqT.of e, atI_n hx, (by show 2 ≤ sizeLine; decide), fun p hp => ?_⟩
      have s1 := Same.new (o := HO.tup [V.str "ok", xs[b]'(by omega)]) (Same.refl H) hp
      exact k _ _ s1 (.tup (SqT.of upd_same) (.cons (.str _) (.cons (hd2.same s1) .nil)))
    | wr b l =>
      obtain ⟨c, hq, _⟩ := hq
      refine ⟨_, rfl, q, _, _, _, rfl, rfl, hq, rfl, rfl, _, rfl, ?_⟩
      refine ⟨(by show 2 ≤ sizeLine; decide), fun p hp => ?_⟩
      have s1 := Same.new (o := HO.tup [V.str "ok", .non]) (Same.refl H) hp
      exact k _ _ s1 (.tup (SqT.of upd_same) (.cons (.str _) (.cons .non .nil)))
theorem ok_after_request (T : Top K mg) : FnC P w K mg base CX0 1 (He.ga K "after_request") (spAft K) := by
  refine fnc0 T.d_after_request sc_after_request (fun _ _ _ _ _ _ us hl => match us, hl with | [_, _], _ => rfl) (fun vs H Q E h => ?_) (fun cdv A outer s H vs Q E hr h => ?_)
  · obtain ⟨tv, rv, ls, r, rfl, _⟩ := h
    rfl
  · obtain ⟨tv, rv, ls, r, rfl, ht, hr2, hok, k⟩ := h
    refine ⟨_, (pss_cons (ps_if (pt_cmpR op_eq (pe_ix ix_tup (pv 1) pe_int (fun _ _ => rfl)) pe_str (nomark _)) (pss_one (ps_ret (pv 0))) pss_nil)
    (pss_cons (ps_asg (pv 1) (pg_tup rfl (pgs_cons (pg_name (i := 2) sc_after_request.nd rfl (Or.inl rfl)) (pgs_cons (pg_name (i := 3) sc_after_request.nd rfl (Or.inl rfl)) (pgs_cons (pg_name (i := 4) sc_after_request.nd rfl (Or.inl rfl)) pgs_nil)))))
    (pss_one (ps_ret (pe_op (op_catA) (pe_op (op_catA) (pe_slice sl_tupA (pv 0) po_none (po_some (pv 3))) (pe_tup (pa_cons (pv 4) pa_nil))) (pe_slice sl_tupA (pv 0) (po_some (pe_op op_add (pv 3) pe_int)) po_none)))))), ?_⟩
    obtain ⟨q, rfl, hq⟩ := rq_parts hr2
    cases r with
    | rd b =>
      have hq : SqT K H q [.str "read", .int (b : Int)] := hq
      refine ⟨_, rfl, q, _, _, _, rfl, rfl, hq, rfl, rfl, _, rfl, ?_⟩
      exact ⟨_, rfl, k _ _ (Same.refl H) ht⟩
    | wr b l =>
      obtain ⟨hb, hl4⟩ := hok
      obtain ⟨c, hq, hc⟩ := hq
      obtain ⟨t, xs, rfl, e, hd, hl⟩ := ht
      have el : xs.length = 8 := by rw [dpAll_len hd, List.length_map, hl]
      have l64 : 64 ≤ sizeLine := by decide
      refine ⟨_, rfl, q, _, _, _, rfl, rfl, hq, rfl, rfl, _, rfl, ?_⟩
      refine ⟨_, rfl, q, _, rfl, hq, rfl, _, _, rfl, _, _, rfl, _, _, rfl, rfl, ?_⟩
      refine ⟨_, rfl, _, rfl, _, rfl, slice_p e fun p1 H1 s1 e1 => ?_⟩
      have c1 : (cutV xs none (some (b : Int))).length ≤ 8 := by
        unfold cutV
        rw [List.length_take, List.length_drop]
        omega
      refine ⟨_, rfl, (by show 1 ≤ sizeLine; decide), fun p2 h2 => ?_⟩
      have s2 := s1.trans (Same.new (o := HO.tup [c]) (Same.refl H1) h2)
      refine cat_t (by rw [upd_ne (ne_of_none e1 h2)]; exact e1) upd_same (by show (cutV xs none (some (b : Int))).length + 1 ≤ sizeLine; omega) fun p3 H3 s3 e3 => ?_
      have s03 := s2.trans s3
      refine ⟨_, rfl, _, rfl, _, _, rfl, rfl, _, rfl, ?_⟩
      dsimp only [tNoPart]
      refine slice_p (s03 _ _ e) fun p4 H4 s4 e4 => ?_
      have c4 : (cutV xs (some ((b : Int) + 1)) none).length ≤ 8 := by
        unfold cutV
        rw [List.length_take, List.length_drop]
        omega
      refine cat_t (s4 _ _ e3) e4 (by rw [List.length_append]; show (cutV xs none (some (b : Int))).length + 1 + (cutV xs (some ((b : Int) + 1)) none).length ≤ sizeLine; omega) fun p5 H5 s5 e5 => ?_
      have s05 := (s03.trans s4).trans s5
      rw [cut_set el hb] at e5
      refine k _ _ s05 ⟨p5, _, rfl, e5, ?_, by show (ls.set b l).length = 8; rw [List.length_set]; exact hl⟩
      show DpAll K H5 (xs.set b c) ((ls.set b l).map dBlk)
      rw [List.map_set]
      exact dpAll_set (hd.same s05) (hc.same s05)
end
end Rb
namespace Rb
open PySem PySem.Spec PyProof.Rows L2
theorem kit_int (K : PySem.W.Frag) (d : PyData) : PySem.W.kitOne K (.type (tyOf d)) (.type "int") = some (match d with | .int _ => true | .bool _ => true | _ => false) := by
  cases d with
  | none => exact kit_ty (a := "NoneType") (b := "int") (r := false) (by decide +kernel)
  | bool b => exact kit_ty (a := "bool") (b := "int") (r := true) (by decide +kernel)
  | int i => exact kit_ty (a := "int") (b := "int") (r := true) (by decide +kernel)
  | str s => exact kit_ty (a := "str") (b := "int") (r := false) (by decide +kernel)
  | list l => exact kit_ty (a := "list") (b := "int") (r := false) (by decide +kernel)
  | tuple l => exact kit_ty (a := "tuple") (b := "int") (r := false) (by decide +kernel)
  | dict l => exact kit_ty (a := "dict") (b := "int") (r := false) (by decide +kernel)
def isTupD : PyData → Bool
  | .tuple _ => true
  | _ => false
theorem kit_tup (K : PySem.W.Frag) (d : PyData) : PySem.W.kitOne K (.type (tyOf d)) (.type "tuple") = some (isTupD d) := by
  cases d with
  | none => exact kit_ty (a := "NoneType") (b := "tuple") (r := false) (by decide +kernel)
  | bool b => exact kit_ty (a := "bool") (b := "tuple") (r := false) (by decide +kernel)
  | int i => exact kit_ty (a := "int") (b := "tuple") (r := false) (by decide +kernel)
  | str s => exact kit_ty (a := "str") (b := "tuple") (r := false) (by decide +kernel)
  | list l => exact kit_ty (a := "list") (b := "tuple") (r := false) (by decide +kernel)
  | tuple l => exact kit_ty (a := "tuple") (b := "tuple") (r := true) (by decide +kernel)
  | dict l => exact kit_ty (a := "dict") (b := "tuple") (r := false) (by decide +kernel)
/-- what a bent request is -/
def Good (ds : List PyData) : Prop := 1 ≤ ds.length ∧ ds.length ≤ 5 ∧ (2 ≤ ds.length → ∃ d r, ds = d :: r ∧ (d = .none ∨ ∃ s, d = .str s))
def spLInt (K : PySem.W.Frag) : Sp := fun vs H Q _ => ∃ v d, vs = [v] ∧ Dp K H v d ∧ Q (.bl (isIntD d)) H
def spDue (K : PySem.W.Frag) : Sp := fun vs H Q _ => ∃ v ds, vs = [v] ∧ Dp K H v (.tuple ds) ∧ Good ds ∧ Q (.bl (reqL ds)) H
def spReqs (K : PySem.W.Frag) : Sp := fun vs H Q _ => ∃ t l m, vs = [.ref t, .int m] ∧ Tp H t l ∧ 0 ≤ m ∧ m ≤ 100 ∧
  ∀ (p : Addr) (H' : Hp) (xs : List V) (rs : List Rq), Kp t H H' → Tp H' t l → H p = none → H' p = some (.lst xs) → DpAll K H' xs (rs.map Rq.d) → (∀ r ∈ rs, Rq.ok r) → rs.length ≤ 100 → Q (.ref p) H'
section
variable {P : Program} {w : World} {K : PySem.W.Frag} {mg : Str → Option Value} {base : Heap}
theorem ok_law_integer (T : Top K mg) : FnC P w K mg base CX0 1 (He.ga K "_law_integer") (spLInt K) := by
  refine fnc0 T.d__law_integer sc__law_integer (fun _ _ _ _ _ _ us hl => match us, hl with | [_], _ => rfl) (fun vs H Q E h => ?_) (fun cdv A outer s H vs Q E hr h => ?_)
  · obtain ⟨v, d, rfl, _⟩ := h
    rfl
  · obtain ⟨v, d, rfl, hd, k⟩ := h
    refine ⟨_, (pss_one (ps_ret (pe_and (pe_callB call_isi (by rfl) T.b_isinstance (by decide +kernel) (pa_cons (pv 0) (pa_cons (pe_bltn (v := .ty "int") (by rfl) T.b_int (by decide +kernel) rfl) pa_nil))) (pe_one (pe_not (pe_callB call_isi (by rfl) T.b_isinstance (by decide +kernel) (pa_cons (pv 0) (pa_cons (pe_bltn (v := .ty "bool") (by rfl) T.b_bool (by decide +kernel) rfl) pa_nil)))))))), ?_⟩
    refine ⟨_, rfl, _, _, _, _, _, rfl, .ty _, hd.tx, kit_int K d, _, rfl, ?_⟩
    cases hd with
    | int i => exact ⟨_, rfl, _, _, _, _, false, rfl, .ty _, .base (.int i), kit_ty (a := "int") (b := "bool") (by decide +kernel), _, rfl, k⟩
    | bl b => exact ⟨_, rfl, _, _, _, _, true, rfl, .ty _, .base (.bl b), kit_ty (a := "bool") (b := "bool") (by decide +kernel), _, rfl, k⟩
    | _ => exact k
theorem ok_law_due (T : Top K mg) : FnC P w K mg base CX0 2 (He.ga K "_law_due") (spDue K) := by
  have G__law_integer := ok_law_integer (P := P) (w := w) (base := base) T
  refine fnc0 T.d__law_due sc__law_due (fun _ _ _ _ _ _ us hl => match us, hl with | [_], _ => rfl) (fun vs H Q E h => ?_) (fun cdv A outer s H vs Q E hr h => ?_)
  · obtain ⟨v, ds, rfl, _⟩ := h
    rfl
  · obtain ⟨v, ds, rfl, hd, hg, k⟩ := h
    refine ⟨_, (pss_cons (ps_if (PW.pt (pw_or (pt_cmpR op_lt (pe_callB call_len_seq (by rfl) T.b_len PySem.boot_len (pa_cons (pv 0) pa_nil)) pe_int (nomark _)) (pw_or (pt_not (pt_val (pe_f G__law_integer hr (by decide) (by rfl) T.g__law_integer pass0 (pa_cons (pe_ix ix_tup (pv 0) pe_int (fun _ _ => rfl)) pa_nil)))) (pw_or1 (pt_not (pt_chain op_le op_le pe_int (pe_ix ix_tup (pv 0) pe_int (fun _ _ => rfl)) pe_int)))))) (pss_one (ps_ret pe_bl)) pss_nil)
    (pss_cons (ps_if (pt_cmpR op_eq (pe_ix ix_tup (pv 0) pe_int (fun _ _ => rfl)) pe_str (nomark _)) (pss_one (ps_ret (pe_cmpR op_eq (pe_callB call_len_seq (by rfl) T.b_len PySem.boot_len (pa_cons (pv 0) pa_nil)) pe_int (nomark _)))) pss_nil)
    (pss_cons (ps_if (PW.pt (pw_or (pt_cmpR op_ne (pe_ix ix_tup (pv 0) pe_int (fun _ _ => rfl)) pe_str (nomark _)) (pw_or (pt_cmpR op_ne (pe_callB call_len_seq (by rfl) T.b_len PySem.boot_len (pa_cons (pv 0) pa_nil)) pe_int (nomark _)) (pw_or (pt_not (pt_val (pe_callB call_isi (by rfl) T.b_isinstance (by decide +kernel) (pa_cons (pe_ix ix_tup (pv 0) pe_int (fun _ _ => rfl)) (pa_cons (pe_bltn (v := .ty "tuple") (by rfl) T.b_tuple (by decide +kernel) rfl) pa_nil))))) (pw_or1 (pt_cmpR op_ne (pe_callB call_len_seq (by rfl) T.b_len PySem.boot_len (pa_cons (pe_ix ix_tup (pv 0) pe_int (fun _ _ => rfl)) pa_nil)) pe_int (nomark _))))))) (pss_one (ps_ret pe_bl)) pss_nil)
    (pss_cons (ps_for PassesOwn.never rfl (pi_tup (pe_ix ix_tup (pv 0) pe_int (fun _ _ => rfl))) (pg_name (i := 1) sc__law_due.nd rfl (Or.inl rfl)) (pss_one (ps_if (pt_not (pt_val (pe_f G__law_integer hr (by decide) (by rfl) T.g__law_integer pass0 (pa_cons (pv 1) pa_nil)))) (pss_one (ps_ret pe_bl)) pss_nil)))
    (pss_one (ps_ret pe_bl)))))), ?_⟩
    cases hd with
    | @tup a xs _ hs ha =>
    have el := dpAll_len ha
    refine ⟨_, rfl, a, xs, rfl, .inr hs, _, _, rfl, rfl, _, rfl, ?_⟩
    refine ite2 (fun c => ?_) (fun c => ?_)
    · have c' : xs.length < 2 := by
        have := of_decide_eq_true c
        omega
      have e : reqL ds = false := by
        match ds, (show ds.length < 2 by omega) with
        | [], _ => rfl
        | [x], _ => cases x <;> rfl
      rw [e] at k
      exact k
    have c' : 2 ≤ xs.length := by
      have := of_decide_eq_false (by simpa using c : decide ((xs.length : Int) < 2) = false)
      omega
    obtain ⟨x1, x2, xr, d1, d2, dr, rfl, rfl, h1, h2, hr2⟩ := dpAll_two ha c'
    have elr := dpAll_len hr2
    obtain ⟨_, _, hg⟩ := hg
    obtain ⟨d1', r', ed, hd1⟩ := hg (by simp)
    injection ed with ed1 ed2
    subst ed1 ed2
    refine ⟨_, rfl, a, _, _, _, rfl, rfl, hs, atI_n (j := 1) rfl, _, d2, rfl, h2, _, rfl, ?_⟩
    have knum : ∀ sw, d1 = .str sw → reqL (d1 :: d2 :: dr) = (numD 8 d2 && (if decide (V.str sw = V.str "read") = true then dr.isEmpty else (decide (V.str sw = V.str "write") && contOne dr))) := fun sw e => by subst e; rfl
    have kz : numD 8 d2 = false → Q (.bl false) H := fun e => by
      rcases hd1 with rfl | ⟨sw, rfl⟩
      · exact k
      · rw [knum sw rfl, e] at k
        exact k
    cases h2 with
    | int i =>
      refine ⟨_, rfl, a, _, _, _, rfl, rfl, hs, atI_n (j := 1) rfl, _, _, rfl, rfl, _, rfl, ?_⟩
      have kk : ∀ sw, d1 = .str sw → Q (.bl ((decide ((0 : Int) ≤ i) && decide (i < 8)) && (if decide (V.str sw = V.str "read") = true then dr.isEmpty else (decide (V.str sw = V.str "write") && contOne dr)))) H := fun sw e => by
        rw [knum sw e] at k
        exact k
      have kn : d1 = .none → Q (.bl false) H := fun e => by
        subst e
        exact k
      have kf : (decide ((0 : Int) ≤ i) && decide (i < 8)) = false → Q (.bl false) H := fun e => by
        rcases hd1 with q | ⟨sw, q⟩
        · exact kn q
        · have := kk sw q
          rw [e] at this
          exact this
      by_cases b0 : (0 : Int) ≤ i
      · rw [decide_eq_true b0]
        refine ⟨_, _, rfl, rfl, _, rfl, ?_⟩
        by_cases b7 : i ≤ 7
        · rw [decide_eq_true b7]
          rw [decide_eq_true b0, decide_eq_true (by omega : i < 8), Bool.true_and] at kk
          refine ⟨_, rfl, a, _, _, _, rfl, rfl, hs, atI_n (j := 0) rfl, ?_⟩
          rcases hd1 with rfl | ⟨sw, rfl⟩
          · cases h1
            refine ⟨rfl, _, rfl, _, rfl, a, _, _, _, rfl, rfl, hs, atI_n (j := 0) rfl, rfl, _, rfl, kn rfl⟩
          · cases h1
            have k2 := kk sw rfl
            rw [Bool.true_and] at k2
            refine ⟨rfl, _, rfl, ?_⟩
            show if decide (V.str sw = V.str "read") = true then _ else _
            cases er : decide (V.str sw = V.str "read")
            · rw [er, if_neg (by decide)] at k2
              refine ⟨_, rfl, a, _, _, _, rfl, rfl, hs, atI_n (j := 0) rfl, rfl, _, rfl, ?_⟩
              show if (!decide (V.str sw = V.str "write")) = true then _ else _
              cases ew : decide (V.str sw = V.str "write")
              · rw [ew] at k2
                exact k2
              rw [ew, Bool.true_and] at k2
              refine ⟨_, rfl, a, _, rfl, .inr hs, rfl, _, rfl, ?_⟩
              show if (!decide (V.int ((V.str sw :: V.int i :: xr).length : Int) = V.int ((3 : Nat) : Int))) = true then _ else _
              rw [neI]
              by_cases c1 : xr.length = 1
              · rw [show decide ((V.str sw :: V.int i :: xr).length = 3) = true from decide_eq_true (by show xr.length + 1 + 1 = 3; omega)]
                obtain ⟨x3, d3, rfl, rfl, h3⟩ := dpAll_one hr2 c1
                have k3 : Q (.bl (contD d3)) H := k2
                refine ⟨_, rfl, a, _, _, _, rfl, rfl, hs, rfl, _, _, _, _, _, rfl, .ty _, h3.tx, kit_tup K d3, _, rfl, ?_⟩
                cases h3 with
                | @tup b ys es hs3 ha3 =>
                  have el3 := dpAll_len ha3
                  refine ⟨_, rfl, a, _, _, _, rfl, rfl, hs, rfl, b, ys, rfl, .inr hs3, rfl, _, rfl, ?_⟩
                  show if (!decide (V.int (ys.length : Int) = V.int ((4 : Nat) : Int))) = true then _ else _
                  rw [neI]
                  have k4 : Q (.bl (decide (es.length = 4) && es.all isIntD)) H := k3
                  by_cases c4 : ys.length = 4
                  · rw [decide_eq_true c4]
                    rw [decide_eq_true (el3.symm.trans c4), Bool.true_and] at k4
                    refine ⟨_, rfl, a, _, _, _, rfl, rfl, hs, rfl, b, rfl, ⟨ys, hs3⟩, for_tup (xs := ys) (fun n σ H1 => ∃ x1, σ = [some (.ref a), x1] ∧ H1 = H ∧ (es.take n).all isIntD = true) ?_ ?_ ?_ ?_⟩
                    · exact ⟨_, rfl, rfl, rfl⟩
                    · rintro n σ H1 _ ⟨_, _, rfl, _⟩
                      exact hs3
                    · rintro n σ H1 x hx ⟨y1, rfl, rfl, hall⟩
                      obtain ⟨e, he, hxe⟩ := dpAll_at ha3 hx
                      refine ⟨_, rfl, _, _, rfl, hxe, _, rfl, ?_⟩
                      cases ee : isIntD e
                      · have : es.all isIntD = false := by
                          rw [List.all_eq_false]
                          exact ⟨e, List.mem_of_getElem? he, by rw [ee]; decide⟩
                        rw [this] at k4
                        exact k4
                      · refine ⟨_, rfl, rfl, ?_⟩
                        rw [List.take_add_one, he, List.all_append, hall]
                        simp [ee]
                    · rintro σ H1 ⟨y1, rfl, rfl, hall⟩
                      rw [el3, List.take_length] at hall
                      rw [hall] at k4
                      exact k4
                  · rw [decide_eq_false c4]
                    rw [decide_eq_false (by omega : ¬ es.length = 4)] at k4
                    exact k4
                | _ => exact k3
              · rw [show decide ((V.str sw :: V.int i :: xr).length = 3) = false from decide_eq_false (by show ¬ xr.length + 1 + 1 = 3; omega)]
                have e0 : contOne dr = false := by
                  match dr, (show dr.length ≠ 1 by omega) with
                  | [], _ => rfl
                  | [x], c => exact absurd rfl c
                  | _ :: _ :: _, _ => rfl
                rw [e0] at k2
                exact k2
            · rw [er, if_pos rfl] at k2
              refine ⟨_, rfl, a, _, rfl, .inr hs, rfl, ?_⟩
              have e0 : decide (V.int ((V.str sw :: V.int i :: xr).length : Int) = V.int ((2 : Nat) : Int)) = dr.isEmpty := by
                rw [eqN]
                cases hr2 with
                | nil => rfl
                | cons _ _ => exact decide_eq_false (by simp)
              show Q (.bl (decide (V.int ((V.str sw :: V.int i :: xr).length : Int) = V.int ((2 : Nat) : Int)))) H
              rw [e0]
              exact k2
        · rw [decide_eq_false b7]
          rw [decide_eq_true b0, decide_eq_false (by omega : ¬ i < 8)] at kf
          exact kf rfl
      · rw [decide_eq_false b0] at kf ⊢
        exact ⟨_, rfl, kf rfl⟩
    | _ => exact kz rfl
end
theorem noL_blk (l : List Int) : noL (dBlk l) = true := by
  show noLs (l.map PyData.int) = true
  induction l with
  | nil => rfl
  | cons i r ih => exact ih
theorem noL_rq (r : Rq) : noL r.d = true := by
  cases r with
  | rd b => rfl
  | wr b l =>
    show (true && (true && (noL (dBlk l) && true))) = true
    rw [noL_blk]
    rfl
theorem noLs_rq : ∀ rs : List Rq, noLs (rs.map Rq.d) = true
  | [] => rfl
  | r :: rs => by
    show (noL r.d && noLs (rs.map Rq.d)) = true
    rw [noL_rq, noLs_rq]
    rfl
section
variable {P : Program} {w : World} {K : PySem.W.Frag} {mg : Str → Option Value} {base : Heap}
theorem ok_law_requests (T : Top K mg) : FnC P w K mg base CX0 2 (He.ga K "_law_requests") (spReqs K) := by
  have G__law_next := ok_law_next (P := P) (w := w) (base := base) T
  refine fnc0 T.d__law_requests sc__law_requests (fun _ _ _ _ _ _ us hl => match us, hl with | [_, _], _ => rfl) (fun vs H Q E h => ?_) (fun cdv A outer s H vs Q E hr h => ?_)
  · obtain ⟨t, l, m, rfl, _⟩ := h
    rfl
  · obtain ⟨t, l, m, rfl, ht, m0, m1, k⟩ := h
    refine ⟨_, (pss_cons (ps_set (i := 2) sc__law_requests.nd rfl (Or.inl rfl) (pe_lst pa_nil))
    (pss_cons (ps_for PassesOwn.never rfl (pi_range1 (by rfl) T.b_range (pa_cons (pv 1) pa_nil)) (pg_name (i := 3) sc__law_requests.nd rfl (Or.inl rfl)) (pss_cons (ps_set (i := 4) sc__law_requests.nd rfl (Or.inl rfl) (pe_f G__law_next hr (by decide) (by rfl) T.g__law_next pass0 (pa_cons (pv 0) (pa_cons (pe_ix ix_tup (pe_tup (pa_cons pe_int (pa_cons pe_int pa_nil))) (pe_f G__law_next hr (by decide) (by rfl) T.g__law_next pass0 (pa_cons (pv 0) (pa_cons pe_int pa_nil))) (fun _ _ => rfl)) pa_nil))))
    (pss_one (ps_if (pt_cmpR op_eq (pe_f G__law_next hr (by decide) (by rfl) T.g__law_next pass0 (pa_cons (pv 0) (pa_cons pe_int pa_nil))) pe_int (nomark _)) (pss_one (ps_expr (pe_bm PySem.F.plainAttrs_list PySem.F.slot_list_append PySem.F.type_list_append mt_append (pv 2) (pa_cons (pe_tup (pa_cons pe_str (pa_cons (pv 4) pa_nil))) pa_nil)))) (pss_one (ps_expr (pe_bm PySem.F.plainAttrs_list PySem.F.slot_list_append PySem.F.type_list_append mt_append (pv 2) (pa_cons (pe_tup (pa_cons pe_str (pa_cons (pv 4) (pa_cons (pe_callTy call_tuple_of (by rfl) T.b_tuple (by decide +kernel) (pa_cons (pe_lc (own := [("k", 5)]) (g := gName 5) (tt := tYes) rfl sc__law_requests.nd (pi_range1 (by rfl) T.b_range (pa_cons pe_int pa_nil)) (blkOk_by (N := ["tape", "many", "requests", "turn", "block", "k"]) (sc := defScope s__law_requests) (by decide +kernel)) (fun _ _ _ _ _ => (pg_name (i := 5) sc__law_requests.nd rfl (Or.inl rfl))) (fun _ _ _ _ _ => pts_nil) (fun _ _ _ _ _ => (pe_op op_add pe_int (pe_f G__law_next hr (by decide) (by rfl) T.g__law_next pass0 (pa_cons (pv 0) (pa_cons pe_int pa_nil)))))) pa_nil)) pa_nil)))) pa_nil))))))))
    (pss_one (ps_ret (pv 2))))), ?_⟩
    refine ⟨(by decide), fun p hp => ?_⟩
    have n0 := ht.nt hp
    have n1 := ht.nl hp
    refine ⟨_, rfl, m, rfl, by omega, by omega, for_range (n := m.toNat) (fun i σ H1 => ∃ x3 x4 x5 xs, ∃ rs : List Rq, σ = [some (.ref t), some (.int m), some (.ref p), x3, x4, x5] ∧ Kp t H H1 ∧ Tp H1 t l ∧ H1 p = some (.lst xs) ∧ DpAll K H1 xs (rs.map Rq.d) ∧ (∀ r ∈ rs, Rq.ok r) ∧ rs.length = i) ?_ ?_ ?_⟩
    · exact ⟨_, _, _, [], [], rfl, Kp.refl.new ht.at hp, ht.same (Same.new (Same.refl H) hp), upd_same, .nil, (fun r hr => nomatch hr), rfl⟩
    · rintro i σ H1 hi ⟨x3, x4, x5, xs, rs, rfl, kp, ht1, e1, hd, hok, hl⟩
      have hle : xs.length < sizeLine := by
        rw [dpAll_len hd, List.length_map, hl]
        exact Nat.lt_of_lt_of_le (show i < 101 by omega) (by decide)
      have pn : H p = none := hp
      -- block
      refine ⟨_, rfl, (by show 2 ≤ sizeLine; decide), fun q1 f1 => ?_⟩
      have s1 := Same.new (o := HO.tup [V.int 2, .int 8]) (Same.refl H1) f1
      refine ⟨_, rfl, t, l, 2, rfl, ht1.same s1, by decide, by decide, fun r1 H2 kp2 ht2 r10 r11 => ?_⟩
      have hq1 := kp2 _ _ upd_same (ht1.nt f1)
      obtain ⟨mm, hmm, amm⟩ : ∃ mm : Int, (mm = 2 ∨ mm = 8) ∧ atI [V.int 2, .int 8] r1 = some (.int mm) := by
        have : r1 = 0 ∨ r1 = 1 := by omega
        rcases this with rfl | rfl
        · exact ⟨2, .inl rfl, rfl⟩
        · exact ⟨8, .inr rfl, rfl⟩
      refine ⟨q1, _, _, _, rfl, rfl, SqT.of hq1, amm, t, l, mm, rfl, ht2, by omega, by omega, fun b H3 kp3 ht3 b0 b1 => ?_⟩
      have kp13 : Kp t H1 H3 := ((Kp.of s1).trans kp2).trans kp3
      have hd3 : DpAll K H3 xs (rs.map Rq.d) := Rb.DpAll.ts (kp13.ts ht1) _ _ (noLs_rq rs) hd
      have e3 := kp13 _ _ e1 n0
      obtain ⟨nb, rfl⟩ : ∃ nb : Nat, b = (nb : Int) := ⟨b.toNat, by omega⟩
      -- kind
      refine ⟨_, rfl, t, l, 2, rfl, ht3, by decide, by decide, fun r2 H4 kp4 ht4 _ _ => ?_⟩
      have kp14 := kp13.trans kp4
      have e4 := kp4 _ _ e3 n0
      have hd4 : DpAll K H4 xs (rs.map Rq.d) := Rb.DpAll.ts (kp4.ts ht3) _ _ (noLs_rq rs) hd3
      -- one more
      have more : ∀ {H5 : Hp} {q : Addr} {r : Rq} {x3' x4' x5' : Option V}, Kp t H4 H5 → Tp H5 t l → Dp K H5 (.ref q) r.d → r.ok → H5 p = some (.lst xs) → DpAll K H5 xs (rs.map Rq.d) →
          ∃ x3 x4 x5 xs', ∃ rs' : List Rq, [some (.ref t), some (.int m), some (.ref p), x3', x4', x5'] = [some (.ref t), some (.int m), some (.ref p), x3, x4, x5] ∧ Kp t H (upd H5 p (.lst (xs ++ [.ref q]))) ∧ Tp (upd H5 p (.lst (xs ++ [.ref q]))) t l ∧ (upd H5 p (.lst (xs ++ [.ref q]))) p = some (.lst xs') ∧ DpAll K (upd H5 p (.lst (xs ++ [.ref q]))) xs' (rs'.map Rq.d) ∧ (∀ r ∈ rs', Rq.ok r) ∧ rs'.length = i + 1 := by
        intro H5 q r x3' x4' x5' kp5 ht5 hq5 hr5 e5 hd5
        have kH5 := (kp.trans kp14).trans kp5
        have ts : TSame K H5 (upd H5 p (.lst (xs ++ [.ref q]))) := TSame.lst e5
        refine ⟨_, _, _, xs ++ [.ref q], rs ++ [r], rfl, fun b o hb nb => ?_, ht5.upd n0 n1, upd_same, ?_, fun x hx => ?_, by rw [List.length_append, hl]; rfl⟩
        · rw [upd_ne (ne_of_none hb pn)]
          exact kH5 b o hb nb
        · rw [List.map_append]
          exact Rb.DpAll.app (Rb.DpAll.ts ts _ _ (noLs_rq rs) hd5) (.cons (Rb.Dp.ts ts _ _ (noL_rq r) hq5) .nil)
        · rcases List.mem_append.mp hx with z | z
          · exact hok x z
          · rw [List.mem_singleton.mp z]
            exact hr5
      refine ⟨rfl, _, rfl, ite2 (fun _ => ?_) (fun _ => ?_)⟩
      · refine ⟨_, rfl, .inl ⟨rfl, _, SqL.of e4⟩, _, rfl, (by show 2 ≤ sizeLine; decide), fun q2 f2 => ?_⟩
        have s5 := Same.new (o := HO.tup [V.str "read", .int (nb : Int)]) (Same.refl H4) f2
        refine ⟨p, _, _, rfl, rfl, s5 _ _ e4, hle, ?_⟩
        exact more (r := .rd nb) (Kp.of s5) (ht4.same s5) (.tup (SqT.of upd_same) (.cons (.str _) (.cons (.int _) .nil))) (show nb < 8 by omega) (s5 _ _ e4) (hd4.same s5)
      · refine ⟨_, rfl, .inl ⟨rfl, _, SqL.of e4⟩, _, rfl, 4, rfl, by decide, by decide, fun D hD => ?_⟩
        refine lc_range (n := 4) (fun j H5 => ∃ bl : List Int, bl.length = j ∧ H5 D = some (.lst (bl.map V.int)) ∧ Kp t H4 H5 ∧ Tp H5 t l) ?_ ?_ ?_
        · exact ⟨[], rfl, upd_same, Kp.refl.new ht4.at hD, ht4.same (Same.new (Same.refl H4) hD)⟩
        · rintro j H5 hj ⟨bl, hbl, e5, kp5, ht5⟩
          have nD := ht4.nt hD
          have nDl := ht4.nl hD
          refine ⟨rfl, _, rfl, t, l, 9, rfl, ht5, by decide, by decide, fun r3 H6 kp6 ht6 r30 r31 => ⟨_, _, rfl, rfl, _, kp6 _ _ e5 nD, ?_, bl ++ [1 + r3], by rw [List.length_append, hbl]; rfl, ?_, ?_, ht6.upd nD nDl⟩⟩
          · rw [List.length_map, hbl]
            exact Nat.lt_trans hj (by decide)
          · rw [upd_same, List.map_append]
            rfl
          · intro b o hb nb'
            rw [upd_ne (ne_of_none hb hD)]
            exact (kp5.trans kp6) b o hb nb'
        · rintro H5 ⟨bl, hbl, e5, kp5, ht5⟩
          refine ⟨D, _, rfl, .inl ⟨SqL.of e5, fun q3 f3 => ⟨(by show 3 ≤ sizeLine; decide), fun q4 f4 => ?_⟩⟩⟩
          have s6 := Same.new (o := HO.tup (bl.map V.int)) (Same.refl H5) f3
          have s7 := Same.new (o := HO.tup [V.str "write", .int (nb : Int), .ref q3]) s6 (s6.free f4)
          have e7 := s7 _ _ (kp5 _ _ e4 n0)
          refine ⟨p, _, _, rfl, rfl, e7, hle, ?_⟩
          refine more (r := .wr nb bl) (kp5.trans (Kp.of s7)) (ht5.same s7) (.tup (SqT.of upd_same) (.cons (.str _) (.cons (.int _) (.cons (.tup (SqT.of ?_) (dp_ints bl)) .nil)))) ⟨show nb < 8 by omega, hbl⟩ e7 ?_
          · rw [upd_ne (free_upd f4).1.symm, upd_same]
          · exact (Rb.DpAll.ts (kp5.ts ht4) _ _ (noLs_rq rs) hd4).same s7
    · rintro σ H1 ⟨x3, x4, x5, xs, rs, rfl, kp, ht1, e1, hd, hok, hl⟩
      exact ⟨_, rfl, k p H1 xs rs kp ht1 hp e1 hd hok (by omega)⟩
end
end Rb
namespace Rb
open PySem PySem.Spec PyProof.Rows L2
theorem pickR (r : Int) (n : Int) (xs : List V) (hl : (xs.length : Int) = n) (h0 : 0 ≤ r) (h1 : r < n) : ∃ v ∈ xs, atI xs r = some v := by
  obtain ⟨j, e⟩ : ∃ j : Nat, r = (j : Int) := ⟨r.toNat, by omega⟩
  have hj : j < xs.length := by omega
  have hx : xs[j]? = some xs[j] := List.getElem?_eq_getElem hj
  exact ⟨_, List.mem_of_getElem? hx, by rw [e]; exact atI_n hx⟩
theorem ixN_n {n j : Nat} (h : j < n) : ixN n (j : Int) = some j := by
  unfold ixN
  rw [if_pos (by omega), if_pos (by omega)]
  rfl
theorem ixN_last {n : Nat} (h : 0 < n) : ixN n (-1) = some (n - 1) := by
  unfold ixN
  rw [if_neg (by decide), if_pos (by omega)]
  congr 1
  omega
theorem rq_list {K : PySem.W.Frag} {H : Hp} {rv : V} {r : Rq} (h : Dp K H rv r.d) : ∃ q xs ds, rv = .ref q ∧ SqT K H q xs ∧ DpAll K H xs ds ∧ noLs ds = true ∧ 2 ≤ ds.length ∧ ds.length ≤ 3 ∧ ∃ s r, ds = .str s :: r := by
  cases r with
  | rd b =>
    cases h with
    | @tup a xs ds hs ha => exact ⟨a, xs, _, rfl, hs, ha, rfl, by show 2 ≤ 2; decide, by show 2 ≤ 3; decide, _, _, rfl⟩
  | wr b l =>
    cases h with
    | @tup a xs ds hs ha =>
      refine ⟨a, xs, _, rfl, hs, ha, ?_, by show 2 ≤ 3; decide, by show 3 ≤ 3; decide, _, _, rfl⟩
      show (true && (true && (noL (dBlk l) && true))) = true
      rw [noL_blk]
      rfl
def flatD (d : PyData) : Prop := d = .none ∨ ∃ s, d = .str s
/-- the list that is bent -/
def Bt (K : PySem.W.Frag) (H' : Hp) (p : Addr) (n : Nat) (nl : Bool) : Prop := ∃ xs ds, H' p = some (.lst xs) ∧ DpAll K H' xs ds ∧ (nl = true → noLs ds = true) ∧ n ≤ ds.length ∧ ds.length ≤ 5 ∧ (2 ≤ ds.length → ∃ d r, ds = d :: r ∧ flatD d)
theorem noLs_set : ∀ {ds : List PyData} {i : Nat} {d : PyData}, noLs ds = true → noL d = true → noLs (ds.set i d) = true
  | [], _, _, _, _ => rfl
  | x :: xs, 0, d, h, hd => by
    have := (and2 (show (noL x && noLs xs) = true from h)).2
    show (noL d && noLs xs) = true
    rw [hd, this]
    rfl
  | x :: xs, i + 1, d, h, hd => by
    obtain ⟨a, b⟩ := and2 (show (noL x && noLs xs) = true from h)
    show (noL x && noLs (xs.set i d)) = true
    rw [a, noLs_set b hd]
    rfl
def spBent (K : PySem.W.Frag) : Sp := fun vs H Q _ => ∃ t l rv r, vs = [.ref t, rv] ∧ Tp H t l ∧ Dp K H rv (Rq.d r) ∧
  ∀ (v : V) (ds : List PyData) (H' : Hp), Kp t H H' → Tp H' t l → Dp K H' v (.tuple ds) → Good ds → Q v H'
section
variable {P : Program} {w : World} {K : PySem.W.Frag} {mg : Str → Option Value} {base : Heap}
theorem ok_law_bent (T : Top K mg) : FnC P w K mg base CX0 2 (He.ga K "_law_bent") (spBent K) := by
  have G__law_next := ok_law_next (P := P) (w := w) (base := base) T
  refine fnc0 T.d__law_bent sc__law_bent (fun _ _ _ _ _ _ us hl => match us, hl with | [_, _], _ => rfl) (fun vs H Q E h => ?_) (fun cdv A outer s H vs Q E hr h => ?_)
  · obtain ⟨t, l, rv, r, rfl, _⟩ := h
    rfl
  · obtain ⟨t, l, rv, r, rfl, ht, hr2, k⟩ := h
    obtain ⟨q, xs0, ds0, rfl, hq, hd0, nl0, l2, l3, s0, r0, es0⟩ := rq_list hr2
    refine ⟨_, (pss_cons (ps_set (i := 2) sc__law_bent.nd rfl (Or.inl rfl) (pe_callTy call_list_of (by rfl) T.b_list (by decide +kernel) (pa_cons (pv 1) pa_nil)))
    (pss_cons (ps_set (i := 3) sc__law_bent.nd rfl (Or.inl rfl) (pe_f G__law_next hr (by decide) (by rfl) T.g__law_next pass0 (pa_cons (pv 0) (pa_cons pe_int pa_nil))))
    (pss_cons (ps_join (ps_if (pt_cmpR op_eq (pv 3) pe_int (nomark _)) (pss_one (ps_asg (pe_ix ix_tup (pe_tup (pa_cons pe_str (pa_cons pe_non (pa_cons pe_str (pa_cons pe_str pa_nil))))) (pe_f G__law_next hr (by decide) (by rfl) T.g__law_next pass0 (pa_cons (pv 0) (pa_cons pe_int pa_nil))) (fun _ _ => rfl)) (pg_sub (pv 2) pe_int set_list))) pss_nil))
    (pss_cons (ps_join (ps_if (pt_cmpR op_eq (pv 3) pe_int (nomark _)) (pss_one (ps_asg (pe_ix ix_tup (pe_tup (pa_cons (pe_un un_neg pe_int) (pa_cons pe_int (pa_cons pe_bl (pa_cons pe_non (pa_cons pe_str (pa_cons pe_int pa_nil))))))) (pe_f G__law_next hr (by decide) (by rfl) T.g__law_next pass0 (pa_cons (pv 0) (pa_cons pe_int pa_nil))) (fun _ _ => rfl)) (pg_sub (pv 2) pe_int set_list))) pss_nil))
    (pss_cons (ps_join (ps_if (pt_cmpR op_eq (pv 3) pe_int (nomark _)) (pss_one (ps_expr (pe_bm PySem.F.plainAttrs_list PySem.F.slot_list_append PySem.F.type_list_append mt_append (pv 2) (pa_cons (pe_tup (pa_cons pe_int (pa_cons pe_int (pa_cons pe_int (pa_cons pe_int pa_nil))))) pa_nil)))) pss_nil))
    (pss_cons (ps_join (ps_if (pt_cmpR op_eq (pv 3) pe_int (nomark _)) (pss_one (ps_expr (pe_bm0 PySem.F.plainAttrs_list PySem.F.slot_list_pop PySem.F.type_list_pop mt_pop (pv 2)))) pss_nil))
    (pss_cons (ps_join (ps_if (pt_cmpR op_eq (pv 3) pe_int (nomark _)) (pss_one (ps_asg (pe_ix ix_tup (pe_tup (pa_cons (pe_tup (pa_cons pe_int (pa_cons pe_int (pa_cons pe_int pa_nil)))) (pa_cons (pe_lst (pa_cons pe_int (pa_cons pe_int (pa_cons pe_int (pa_cons pe_int pa_nil))))) (pa_cons (pe_tup (pa_cons pe_int (pa_cons pe_int (pa_cons pe_int (pa_cons pe_bl pa_nil))))) (pa_cons (pe_tup (pa_cons pe_int (pa_cons pe_int (pa_cons pe_int (pa_cons pe_non pa_nil))))) (pa_cons pe_int (pa_cons (pe_tup (pa_cons pe_int (pa_cons (pe_un un_neg pe_int) (pa_cons (pe_op op_pow pe_int pe_int) (pa_cons pe_int pa_nil))))) pa_nil))))))) (pe_f G__law_next hr (by decide) (by rfl) T.g__law_next pass0 (pa_cons (pv 0) (pa_cons pe_int pa_nil))) (fun _ _ => rfl)) (pg_sub (pv 2) (pe_un un_neg pe_int) set_list))) pss_nil))
    (pss_one (ps_ret (pe_callTy call_tuple_of (by rfl) T.b_tuple (by decide +kernel) (pa_cons (pv 2) pa_nil))))))))))), ?_⟩
    refine ⟨_, rfl, q, xs0, rfl, .inr hq, fun p hp => ?_⟩
    have n0 := ht.nt hp
    have n1 := ht.nl hp
    have s1 := Same.new (o := HO.lst xs0) (Same.refl H) hp
    refine ⟨_, rfl, t, l, 7, rfl, ht.same s1, by decide, by decide, fun wy H1 kp0 ht1 w0 w1 => ?_⟩
    have kp1 : Kp t H H1 := (Kp.of s1).trans kp0
    have e1 : H1 p = some (.lst xs0) := kp0 _ _ upd_same n0
    have hd1 : DpAll K H1 xs0 ds0 := Rb.DpAll.ts (kp1.ts ht) _ _ nl0 hd0
    let S := [some (V.ref t), some (V.ref q), some (V.ref p), some (V.int wy)]
    -- a store at the list
    have put : ∀ {H2 : Hp} {xs : List V} {o : HO}, Kp t H H2 → Tp H2 t l → H2 p = some (.lst xs) → Kp t H (upd H2 p o) ∧ Tp (upd H2 p o) t l := fun kp2 ht2 e2 => ⟨fun b o hb nb => by
      rw [upd_ne (ne_of_none hb hp)]
      exact kp2 b o hb nb, ht2.upd n0 n1⟩
    -- way 1
    refine ⟨fun σ' H' => σ' = S ∧ Kp t H H' ∧ Tp H' t l ∧ Bt K H' p 2 true ∧ ∃ xs ds, H' p = some (.lst xs) ∧ ds.length ≤ 3 ∧ DpAll K H' xs ds ∧ noLs ds = true ∧ 2 ≤ ds.length ∧ ∃ d r, ds = d :: r ∧ flatD d, ?_, ?_⟩
    · refine ⟨_, rfl, rfl, _, rfl, ite2 (fun _ => ?_) (fun _ => ?_)⟩
      · refine ⟨(by show 4 ≤ sizeLine; decide), fun p2 f2 => ?_⟩
        have s2 := Same.new (o := HO.tup [V.str "sync", .non, .str "write", .str "read"]) (Same.refl H1) f2
        refine ⟨_, rfl, t, l, 4, rfl, ht1.same s2, by decide, by decide, fun r1 H2 kp2 ht2 r10 r11 => ?_⟩
        obtain ⟨v, hv, av⟩ := pickR r1 4 [V.str "sync", .non, .str "write", .str "read"] rfl r10 r11
        have hv' : ∃ d, Dp K (upd H2 p (.lst (xs0.set 0 v))) v d ∧ flatD d ∧ noL d = true := by
          simp at hv
          rcases hv with rfl | rfl | rfl | rfl
          · exact ⟨_, .str _, .inr ⟨_, rfl⟩, rfl⟩
          · exact ⟨_, .non, .inl rfl, rfl⟩
          · exact ⟨_, .str _, .inr ⟨_, rfl⟩, rfl⟩
          · exact ⟨_, .str _, .inr ⟨_, rfl⟩, rfl⟩
        obtain ⟨d, hvd, hfl, hnl⟩ := hv'
        have kp12 : Kp t H1 H2 := (Kp.of s2).trans kp2
        have e2 := kp12 _ _ e1 n0
        have hd2 : DpAll K H2 xs0 ds0 := Rb.DpAll.ts (kp12.ts ht1) _ _ nl0 hd1
        have hpos : 0 < xs0.length := by rw [dpAll_len hd2]; omega
        refine ⟨p2, _, _, v, rfl, rfl, SqT.of (kp2 _ _ upd_same (ht1.nt f2)), av, _, rfl, p, _, _, 0, rfl, rfl, e2, ixN_n (j := 0) hpos, ?_⟩
        obtain ⟨kp3, ht3⟩ := put (o := .lst (xs0.set 0 v)) (kp1.trans kp12) ht2 e2
        have hd3 : DpAll K (upd H2 p (.lst (xs0.set 0 v))) (xs0.set 0 v) (ds0.set 0 d) := dpAll_set (Rb.DpAll.ts (TSame.lst e2) _ _ nl0 hd2) hvd
        have hh : ∃ d' r, ds0.set 0 d = d' :: r ∧ flatD d' := by
          rw [es0]
          exact ⟨_, _, rfl, hfl⟩
        exact ⟨rfl, kp3, ht3, ⟨_, _, upd_same, hd3, fun _ => noLs_set nl0 hnl, by rw [List.length_set]; exact l2, by rw [List.length_set]; omega, fun _ => hh⟩, _, _, upd_same, by rw [List.length_set]; exact l3, hd3, noLs_set nl0 hnl, by rw [List.length_set]; exact l2, hh⟩
      · have hh : ∃ d' r, ds0 = d' :: r ∧ flatD d' := ⟨_, _, es0, .inr ⟨_, rfl⟩⟩
        exact ⟨rfl, kp1, ht1, ⟨_, _, e1, hd1, fun _ => nl0, l2, by omega, fun _ => hh⟩, _, _, e1, l3, hd1, nl0, l2, hh⟩
    clear e1 hd1
    rintro σ' H3 ⟨rfl, kp3, ht3, _, xs, ds, e3, l3, hd3, nl3, l2, d0, dr, rfl, hfl⟩
    -- way 2
    refine ⟨fun σ' H' => σ' = S ∧ Kp t H H' ∧ Tp H' t l ∧ ∃ xs ds, H' p = some (.lst xs) ∧ ds.length ≤ 3 ∧ DpAll K H' xs ds ∧ noLs ds = true ∧ 2 ≤ ds.length ∧ ∃ d r, ds = d :: r ∧ flatD d, ?_, ?_⟩
    · refine ⟨_, rfl, rfl, _, rfl, ite2 (fun _ => ?_) (fun _ => ?_)⟩
      · refine ⟨_, rfl, (by show 6 ≤ sizeLine; decide), fun p2 f2 => ?_⟩
        have s2 := Same.new (o := HO.tup [V.int (-1), .int 8, .bl true, .non, .str "0", .int 7]) (Same.refl H3) f2
        refine ⟨_, rfl, t, l, 6, rfl, ht3.same s2, by decide, by decide, fun r1 H2 kp2 ht2 r10 r11 => ?_⟩
        obtain ⟨v, hv, av⟩ := pickR r1 6 [V.int (-1), .int 8, .bl true, .non, .str "0", .int 7] rfl r10 r11
        have hv' : ∃ d, Dp K (upd H2 p (.lst (xs.set 1 v))) v d ∧ noL d = true := by
          simp at hv
          rcases hv with rfl | rfl | rfl | rfl | rfl | rfl
          · exact ⟨_, .int _, rfl⟩
          · exact ⟨_, .int _, rfl⟩
          · exact ⟨_, .bl _, rfl⟩
          · exact ⟨_, .non, rfl⟩
          · exact ⟨_, .str _, rfl⟩
          · exact ⟨_, .int _, rfl⟩
        obtain ⟨d, hvd, hnl⟩ := hv'
        have kp12 : Kp t H3 H2 := (Kp.of s2).trans kp2
        have e2 := kp12 _ _ e3 n0
        have hd2 : DpAll K H2 xs (d0 :: dr) := Rb.DpAll.ts (kp12.ts ht3) _ _ nl3 hd3
        have hpos : 1 < xs.length := by rw [dpAll_len hd2]; omega
        refine ⟨p2, _, _, v, rfl, rfl, SqT.of (kp2 _ _ upd_same (ht3.nt f2)), av, _, rfl, p, _, _, 1, rfl, rfl, e2, ixN_n (j := 1) hpos, ?_⟩
        obtain ⟨kp3, ht3⟩ := put (o := .lst (xs.set 1 v)) (kp3.trans kp12) ht2 e2
        have hd3 : DpAll K (upd H2 p (.lst (xs.set 1 v))) (xs.set 1 v) ((d0 :: dr).set 1 d) := dpAll_set (Rb.DpAll.ts (TSame.lst e2) _ _ nl3 hd2) hvd
        exact ⟨rfl, kp3, ht3, _, _, upd_same, by rw [List.length_set]; exact l3, hd3, noLs_set nl3 hnl, by rw [List.length_set]; exact l2, _, _, rfl, hfl⟩
      · exact ⟨rfl, kp3, ht3, _, _, e3, l3, hd3, nl3, l2, _, _, rfl, hfl⟩
    clear e3 hd3 nl3 l2 l3 hfl kp3 ht3
    rintro σ' H3 ⟨rfl, kp3, ht3, xs, ds, e3, l3, hd3, nl3, l2, d0, dr, rfl, hfl⟩
    -- way 3
    refine ⟨fun σ' H' => σ' = S ∧ Kp t H H' ∧ Tp H' t l ∧ ∃ xs ds, H' p = some (.lst xs) ∧ ds.length ≤ 4 ∧ DpAll K H' xs ds ∧ noLs ds = true ∧ 2 ≤ ds.length ∧ ∃ d r, ds = d :: r ∧ flatD d, ?_, ?_⟩
    · refine ⟨_, rfl, rfl, _, rfl, ite2 (fun _ => ?_) (fun _ => ?_)⟩
      · refine ⟨_, rfl, .inl ⟨rfl, _, SqL.of e3⟩, (by show 4 ≤ sizeLine; decide), fun p2 f2 => ?_⟩
        have s2 := Same.new (o := HO.tup ([1, 2, 3, 4].map V.int)) (Same.refl H3) f2
        have e2 := s2 _ _ e3
        refine ⟨p, _, _, rfl, rfl, e2, ?_, ?_⟩
        · rw [dpAll_len hd3]
          exact Nat.lt_of_le_of_lt l3 (by decide)
        obtain ⟨kp3', ht3'⟩ := put (o := .lst (xs ++ [.ref p2])) (kp3.trans (Kp.of s2)) (ht3.same s2) e2
        have ts : TSame K _ (upd (upd H3 p2 (HO.tup ([1, 2, 3, 4].map V.int))) p (.lst (xs ++ [.ref p2]))) := TSame.lst e2
        have hv : Dp K (upd H3 p2 (HO.tup ([1, 2, 3, 4].map V.int))) (.ref p2) (dBlk [1, 2, 3, 4]) := .tup (SqT.of upd_same) (dp_ints [1, 2, 3, 4])
        refine ⟨rfl, kp3', ht3', _, (d0 :: dr) ++ [dBlk [1, 2, 3, 4]], upd_same, by rw [List.length_append]; show (d0 :: dr).length + 1 ≤ 4; omega, Rb.DpAll.app (Rb.DpAll.ts ts _ _ nl3 (hd3.same s2)) (.cons (Rb.Dp.ts ts _ _ (noL_blk _) hv) .nil), ?_, by rw [List.length_append]; omega, _, _, rfl, hfl⟩
        rw [noLs_app, nl3]
        show (true && (noL (dBlk [1, 2, 3, 4]) && true)) = true
        rw [noL_blk]
        rfl
      · exact ⟨rfl, kp3, ht3, _, _, e3, by omega, hd3, nl3, l2, _, _, rfl, hfl⟩
    clear e3 hd3 nl3 l2 l3 hfl kp3 ht3
    rintro σ' H3 ⟨rfl, kp3, ht3, xs, ds, e3, l3, hd3, nl3, l2, d0, dr, rfl, hfl⟩
    -- way 4
    refine ⟨fun σ' H' => σ' = S ∧ Kp t H H' ∧ Tp H' t l ∧ ∃ xs ds, H' p = some (.lst xs) ∧ DpAll K H' xs ds ∧ noLs ds = true ∧ Good ds, ?_, ?_⟩
    · refine ⟨_, rfl, rfl, _, rfl, ite2 (fun _ => ?_) (fun _ => ?_)⟩
      · have el := dpAll_len hd3
        obtain ⟨ws, x, es, d, rfl, ed, hws, hx⟩ := Rb.DpAll.last hd3 (fun z => by rw [z] at el; simp at el)
        refine ⟨_, rfl, .inl ⟨rfl, _, SqL.of e3⟩, p, _, x, rfl, rfl, e3, by simp, ?_⟩
        rw [List.dropLast_concat]
        obtain ⟨kp3', ht3'⟩ := put (o := .lst ws) kp3 ht3 e3
        have ts : TSame K H3 (upd H3 p (.lst ws)) := TSame.lst e3
        rw [ed, noLs_app] at nl3
        have nles := (and2 nl3).1
        have len : (d0 :: dr).length = es.length + 1 := by
          rw [ed, List.length_append]
          rfl
        refine ⟨rfl, kp3', ht3', ws, es, upd_same, Rb.DpAll.ts ts _ _ nles hws, nles, by omega, by omega, fun h2 => ?_⟩
        match es, ed with
        | e :: er, ed =>
          injection ed with ed1 ed2
          subst ed1
          exact ⟨_, _, rfl, hfl⟩
      · exact ⟨rfl, kp3, ht3, _, _, e3, hd3, nl3, by omega, by omega, fun _ => ⟨_, _, rfl, hfl⟩⟩
    clear e3 hd3 nl3 l2 l3 hfl kp3 ht3
    rintro σ' H3 ⟨rfl, kp3, ht3, xs, ds, e3, hd3, nl3, gd⟩
    -- way 5
    refine ⟨fun σ' H' => σ' = S ∧ Kp t H H' ∧ Tp H' t l ∧ ∃ xs ds, H' p = some (.lst xs) ∧ DpAll K H' xs ds ∧ Good ds ∧ p ≠ t, ?_, ?_⟩
    · refine ⟨_, rfl, rfl, _, rfl, ite2 (fun _ => ?_) (fun _ => ?_)⟩
      · -- the six
        refine ⟨(by show 3 ≤ sizeLine; decide), fun a1 f1 => ⟨(by show 4 ≤ sizeLine; decide), fun a2 f2 => ⟨(by show 4 ≤ sizeLine; decide), fun a3 f3 => ⟨(by show 4 ≤ sizeLine; decide), fun a4 f4 => ?_⟩⟩⟩⟩
        have s1 := Same.new (o := HO.tup ([1, 2, 3].map V.int)) (Same.refl H3) f1
        have s2 := Same.new (o := HO.lst ([1, 2, 3, 4].map V.int)) s1 (s1.free f2)
        have s3 := Same.new (o := HO.tup [V.int 1, .int 2, .int 3, .bl true]) s2 (s2.free f3)
        have s4 := Same.new (o := HO.tup [V.int 1, .int 2, .int 3, .non]) s3 (s3.free f4)
        refine ⟨_, rfl, _, _, rfl, rfl, ⟨by decide, by decide, by decide⟩, (by show 4 ≤ sizeLine; decide), fun a5 f5 => ⟨(by show 6 ≤ sizeLine; decide), fun a6 f6 => ?_⟩⟩
        have s5 := Same.new (o := HO.tup ([0, -1, 10 ^ 20, 4].map V.int)) s4 (s4.free f5)
        have s6 := Same.new (o := HO.tup [V.ref a1, .ref a2, .ref a3, .ref a4, .int 5, .ref a5]) s5 (s5.free f6)
        have t1 := ht3.nt f1
        have t2 := ht3.nt (s1.free f2)
        have t3 := ht3.nt (s2.free f3)
        have t4 := ht3.nt (s3.free f4)
        have t5 := ht3.nt (s4.free f5)
        have t6 := ht3.nt (s5.free f6)
        refine ⟨_, rfl, t, l, 6, rfl, ht3.same s6, by decide, by decide, fun r1 H2 kp2 ht2 r10 r11 => ?_⟩
        have kp12 : Kp t H3 H2 := (Kp.of s6).trans kp2
        have n21 := (free_upd f2).1
        have z3 := (free_upd f3).1
        have z32 := (free_upd (free_upd f3).2).1
        have z4 := (free_upd f4).1
        have z43 := (free_upd (free_upd f4).2).1
        have z42 := (free_upd (free_upd (free_upd f4).2).2).1
        have z5 := (free_upd f5).1
        have z54 := (free_upd (free_upd f5).2).1
        have z53 := (free_upd (free_upd (free_upd f5).2).2).1
        have z52 := (free_upd (free_upd (free_upd (free_upd f5).2).2).2).1
        have y6 := (free_upd f6).1
        have y65 := (free_upd (free_upd f6).2).1
        have y64 := (free_upd (free_upd (free_upd f6).2).2).1
        have y63 := (free_upd (free_upd (free_upd (free_upd f6).2).2).2).1
        have y62 := (free_upd (free_upd (free_upd (free_upd (free_upd f6).2).2).2).2).1
        have b1 : H2 a1 = some (.tup ([1, 2, 3].map V.int)) := kp2 _ _ (by rw [upd_ne y62.symm, upd_ne z52.symm, upd_ne z42.symm, upd_ne z32.symm, upd_ne n21.symm, upd_same]; rfl) t1
        have b2 : H2 a2 = some (.lst ([1, 2, 3, 4].map V.int)) := kp2 _ _ (by rw [upd_ne y63.symm, upd_ne z53.symm, upd_ne z43.symm, upd_ne z3.symm, upd_same]; rfl) t2
        have b3 : H2 a3 = some (.tup [V.int 1, .int 2, .int 3, .bl true]) := kp2 _ _ (by rw [upd_ne y64.symm, upd_ne z54.symm, upd_ne z4.symm, upd_same]) t3
        have b4 : H2 a4 = some (.tup [V.int 1, .int 2, .int 3, .non]) := kp2 _ _ (by rw [upd_ne y65.symm, upd_ne z5.symm, upd_same]) t4
        have b5 : H2 a5 = some (.tup ([0, -1, 10 ^ 20, 4].map V.int)) := kp2 _ _ (by rw [upd_ne y6.symm, upd_same]; rfl) t5
        obtain ⟨v, hv, av⟩ := pickR r1 6 [V.ref a1, .ref a2, .ref a3, .ref a4, .int 5, .ref a5] rfl r10 r11
        have e2 := kp12 _ _ e3 n0
        have p2 : p ≠ a2 := ne_of_none e3 (s1.free f2)
        have hv' : ∃ d, Dp K (upd H2 p (.lst (xs.set (xs.length - 1) v))) v d := by
          have ts : TSame K H2 (upd H2 p (.lst (xs.set (xs.length - 1) v))) := TSame.lst e2
          simp at hv
          rcases hv with rfl | rfl | rfl | rfl | rfl | rfl
          · exact ⟨_, Rb.Dp.ts ts _ _ (noL_blk [1, 2, 3]) (.tup (SqT.of b1) (dp_ints _))⟩
          · exact ⟨_, .lst (SqL.of (by rw [upd_ne p2.symm]; exact b2)) (dp_ints [1, 2, 3, 4])⟩
          · exact ⟨_, Rb.Dp.ts ts (.tuple [.int 1, .int 2, .int 3, .bool true]) _ rfl (.tup (SqT.of b3) (.cons (.int _) (.cons (.int _) (.cons (.int _) (.cons (.bl _) .nil)))))⟩
          · exact ⟨_, Rb.Dp.ts ts (.tuple [.int 1, .int 2, .int 3, .none]) _ rfl (.tup (SqT.of b4) (.cons (.int _) (.cons (.int _) (.cons (.int _) (.cons .non .nil)))))⟩
          · exact ⟨_, .int _⟩
          · exact ⟨_, Rb.Dp.ts ts _ _ (noL_blk [0, -1, 10 ^ 20, 4]) (.tup (SqT.of b5) (dp_ints _))⟩
        obtain ⟨d, hvd⟩ := hv'
        have hd2 : DpAll K H2 xs ds := Rb.DpAll.ts (kp12.ts ht3) _ _ nl3 hd3
        have el := dpAll_len hd2
        obtain ⟨g1, g2, g3⟩ := gd
        refine ⟨a6, _, _, v, rfl, rfl, SqT.of (kp2 _ _ upd_same t6), av, _, rfl, _, rfl, p, _, _, xs.length - 1, rfl, rfl, e2, ixN_last (by omega), ?_⟩
        obtain ⟨kp3', ht3'⟩ := put (o := .lst (xs.set (xs.length - 1) v)) (kp3.trans kp12) ht2 e2
        have hd3' : DpAll K (upd H2 p (.lst (xs.set (xs.length - 1) v))) (xs.set (xs.length - 1) v) (ds.set (xs.length - 1) d) := dpAll_set (Rb.DpAll.ts (TSame.lst e2) _ _ nl3 hd2) hvd
        refine ⟨rfl, kp3', ht3', _, _, upd_same, hd3', ⟨by rw [List.length_set]; exact g1, by rw [List.length_set]; exact g2, fun h2 => ?_⟩, n0⟩
        rw [List.length_set] at h2
        obtain ⟨d0, dr, rfl, hfl⟩ := g3 h2
        obtain ⟨m, em⟩ : ∃ m, xs.length - 1 = m + 1 := ⟨xs.length - 2, by omega⟩
        rw [em]
        exact ⟨_, _, rfl, hfl⟩
      · exact ⟨rfl, kp3, ht3, _, _, e3, hd3, gd, n0⟩
    clear e3 hd3 nl3 gd kp3 ht3
    rintro σ' H3 ⟨rfl, kp3, ht3, xs, ds, e3, hd3, gd, _⟩
    refine ⟨_, rfl, p, _, rfl, .inl ⟨SqL.of e3, fun p2 f2 => ?_⟩⟩
    have s2 := Same.new (o := HO.tup xs) (Same.refl H3) f2
    exact k _ ds _ (kp3.trans (Kp.of s2)) (ht3.same s2) (.tup (SqT.of upd_same) (hd3.same s2)) gd
end
end Rb
namespace Rb
open PySem PySem.Spec PyProof.Rows L2
theorem ite_nd {x : V} {A B : Prop} (h : B) : if (!decide (x = x)) = true then A else B := by
  rw [if_neg (by simp)]
  exact h
/-- the plain dict tells the table -/
def Pl (K : PySem.W.Frag) (H : Hp) (kvs : List (Key × V)) (ls : List (List Int)) : Prop := ls.length = 8 ∧ ∀ (b : Nat) (bl : List Int), ls[b]? = some bl →
  (∀ v, valV kvs (Sum.inl (b : Int)) = some v → Dp K H v (dBlk bl)) ∧ (valV kvs (Sum.inl (b : Int)) = none → bl = [0, 0, 0, 0])
theorem Pl.same {K : PySem.W.Frag} {H H' : Hp} {kvs : List (Key × V)} {ls : List (List Int)} (h : Pl K H kvs ls) (s : Same H H') : Pl K H' kvs ls :=
  ⟨h.1, fun b bl e => ⟨fun v hv => ((h.2 b bl e).1 v hv).same s, (h.2 b bl e).2⟩⟩
theorem Pl.ts {K : PySem.W.Frag} {H H' : Hp} {kvs : List (Key × V)} {ls : List (List Int)} (h : Pl K H kvs ls) (s : TSame K H H') : Pl K H' kvs ls :=
  ⟨h.1, fun b bl e => ⟨fun v hv => Rb.Dp.ts s _ _ (noL_blk _) ((h.2 b bl e).1 v hv), (h.2 b bl e).2⟩⟩
theorem noLs_blks : ∀ ls : List (List Int), noLs (ls.map dBlk) = true
  | [] => rfl
  | l :: ls => by
    show (noL (dBlk l) && noLs (ls.map dBlk)) = true
    rw [noL_blk, noLs_blks]
    rfl
theorem Tab.kp {K : PySem.W.Frag} {H H' : Hp} {t l : Addr} {v : V} {ls : List (List Int)} (h : Tab K H v ls) (k : Kp t H H') (ht : Tp H t l) : Tab K H' v ls := by
  obtain ⟨q, xs, e, hq, hd, hl⟩ := h
  obtain ⟨ys, e2⟩ := ht.lst
  exact ⟨q, xs, e, k _ _ hq (fun z => by subst z; rw [e2] at hq; cases hq), Rb.DpAll.ts (k.ts ht) _ _ (noLs_blks ls) hd, hl⟩
theorem ok_ok : PyData.strOk "ok" = true := by decide +kernel
theorem shaped_ans (ls : List (List Int)) (r : Rq) : SeqAt.shaped (ansD ls r) = true := by
  cases r with
  | rd b =>
    show SeqAt.shaped (.tuple [.str "ok", dBlk _]) = true
    simp only [SeqAt.shaped, PyData.canLay0, PyData.canLayAll0, PyData.depth, PyData.depthAll, ok_ok, lay_ints, dep_ints]
    rfl
  | wr b l =>
    show SeqAt.shaped (.tuple [.str "ok", .none]) = true
    simp only [SeqAt.shaped, PyData.canLay0, PyData.canLayAll0, PyData.depth, PyData.depthAll, ok_ok]
    rfl
theorem all_ints : ∀ l : List Int, (l.map PyData.int).all isIntD = true
  | [] => rfl
  | i :: r => all_ints r
theorem reqD_rq {r : Rq} (h : r.ok) : reqD r.d = true := by
  cases r with
  | rd b =>
    have hb : b < 8 := h
    show ((decide ((0 : Int) ≤ (b : Int)) && decide ((b : Int) < 8)) && (if decide (V.str "read" = V.str "read") = true then true else _)) = true
    rw [decide_eq_true (by omega : (0 : Int) ≤ (b : Int)), decide_eq_true (by omega : (b : Int) < 8), decide_eq_true rfl]
    rfl
  | wr b l =>
    obtain ⟨hb, hl⟩ := h
    show ((decide ((0 : Int) ≤ (b : Int)) && decide ((b : Int) < 8)) && (if decide (V.str "write" = V.str "read") = true then false else (decide (V.str "write" = V.str "write") && (decide ((l.map PyData.int).length = 4) && (l.map PyData.int).all isIntD)))) = true
    rw [decide_eq_true (by omega : (0 : Int) ≤ (b : Int)), decide_eq_true (by omega : (b : Int) < 8), decide_eq_true (rfl : V.str "write" = V.str "write"), all_ints, (by decide +kernel : decide (V.str "write" = V.str "read") = false), List.length_map, hl]
    rfl
theorem aft_len (ls : List (List Int)) (r : Rq) : (aftL ls r).length = ls.length := by
  cases r with
  | rd b => rfl
  | wr b l => exact List.length_set
theorem Pl.put {K : PySem.W.Frag} {H : Hp} {kvs : List (Key × V)} {ls : List (List Int)} {b : Nat} {l : List Int} {v : V} (h : Pl K H kvs ls) (hv : Dp K H v (dBlk l)) : Pl K H (putK kvs (Sum.inl (b : Int)) v) (ls.set b l) := by
  refine ⟨by rw [List.length_set]; exact h.1, fun c bl e => ?_⟩
  rw [valV_put]
  rw [List.getElem?_set] at e
  by_cases q : b = c
  · subst q
    rw [if_pos rfl] at e
    rw [if_pos rfl]
    split at e
    · injection e with e
      subst e
      exact ⟨fun w hw => by injection hw with hw; subst hw; exact hv, fun z => nomatch z⟩
    · cases e
  · rw [if_neg q] at e
    rw [if_neg (fun z => q (by injection z with z; omega))]
    exact h.2 c bl e
def spLaw (K : PySem.W.Frag) : Sp := fun vs H Q _ => ∃ (a : Addr) (ns : List Int), vs = [.ref a] ∧ SqL K H a (ns.map V.int) ∧ ns.length ≤ 63 ∧ ∀ H', Q (.bl true) H'
section
variable {P : Program} {w : World} {K : PySem.W.Frag} {mg : Str → Option Value} {base : Heap}
theorem ok_law (T : Top K mg) {fd : FuncData} (F : FunD K "law" "law" (defArgs s_law) (defBody s_law) (defScope s_law) [] [] (He.ga K "law") fd) : FnOk P w K mg base CX0 8 (He.ga K "law") fd ["script"] (spLaw K) := by
  have G_new_table := ok_new_table (P := P) (w := w) (base := base) T
  have G__law_requests := ok_law_requests (P := P) (w := w) (base := base) T
  have G__law_next := ok_law_next (P := P) (w := w) (base := base) T
  have G_answer_of := ok_answer_of (P := P) (w := w) (base := base) T
  have G_is_request := ok_is_request (P := P) (w := w) (base := base) T
  have G_after_request := ok_after_request (P := P) (w := w) (base := base) T
  have G__law_bent := ok_law_bent (P := P) (w := w) (base := base) T
  have G__law_due := ok_law_due (P := P) (w := w) (base := base) T
  refine fnk0 F sc_law (fun vs H Q E h => ?_) (fun cdv A outer s H vs Q E hr h => ?_)
  · obtain ⟨a, ns, rfl, _⟩ := h
    rfl
  · obtain ⟨a, ns, rfl, hS, hlen, k⟩ := h
    have hu := hu_of hr
    have hu64 := hr.units
    refine ⟨_, (pss_cons (ps_set (i := 1) sc_law.nd rfl (Or.inl rfl) (pe_lst (pa_cons (pe_callTy call_list_of (by rfl) T.b_list (by decide +kernel) (pa_cons (pv 0) pa_nil)) (pa_cons pe_int (pa_cons pe_int (pa_cons pe_int pa_nil))))))
    (pss_cons (ps_set (i := 2) sc_law.nd rfl (Or.inl rfl) (pe_f0 G_new_table hr (by decide) (by rfl) T.g_new_table pass0))
    (pss_cons (ps_set (i := 3) sc_law.nd rfl (Or.inr rfl) pe_dnewK)
    (pss_cons (ps_for PassesOwn.never rfl (pi_list (pe_f G__law_requests hr (by decide) (by rfl) T.g__law_requests pass0 (pa_cons (pv 1) (pa_cons (pe_f G__law_next hr (by decide) (by rfl) T.g__law_next pass0 (pa_cons (pv 1) (pa_cons pe_int pa_nil))) pa_nil)))) (pg_name (i := 4) sc_law.nd rfl (Or.inl rfl)) (pss_cons (ps_set (i := 5) sc_law.nd rfl (Or.inl rfl) (pe_callTy call_tuple_of (by rfl) T.b_tuple (by decide +kernel) (pa_cons (pe_callTy call_list_of (by rfl) T.b_list (by decide +kernel) (pa_cons (pv 2) pa_nil)) pa_nil)))
    (pss_cons (ps_set (i := 6) sc_law.nd rfl (Or.inl rfl) (pe_tup (pa_cons pe_str (pa_cons pe_non pa_nil))))
    (pss_cons (ps_join (ps_if (pt_cmpR op_eq (pe_ix ix_tup (pv 4) pe_int (fun _ _ => rfl)) pe_str (nomark _)) (pss_one (ps_set (i := 6) sc_law.nd rfl (Or.inl rfl) (pe_tup (pa_cons pe_str (pa_cons (pe_dget2 hu (pv 3) (pe_ix ix_tup (pv 4) pe_int (fun _ _ => rfl)) (pe_tup (pa_cons pe_int (pa_cons pe_int (pa_cons pe_int (pa_cons pe_int pa_nil))))) ⟨rfl, rfl, rfl, rfl⟩) pa_nil))))) pss_nil))
    (pss_cons (ps_if (PW.pt (pw_or (pt_cmpR (op_neD hu64) (pe_f G_answer_of hr (by decide) (by rfl) T.g_answer_of pass0 (pa_cons (pv 2) (pa_cons (pv 4) pa_nil))) (pv 6) (nomark _)) (pw_or1 (pt_cmpR op_notBl (pe_f G_is_request hr (by decide) (by rfl) T.g_is_request pass0 (pa_cons (pv 4) pa_nil)) pe_bl (nomark _))))) (pss_one (ps_ret pe_bl)) pss_nil)
    (pss_cons (ps_set (i := 7) sc_law.nd rfl (Or.inl rfl) (pe_f G_after_request hr (by decide) (by rfl) T.g_after_request pass0 (pa_cons (pv 2) (pa_cons (pv 4) pa_nil))))
    (pss_cons (ps_join (ps_if (pt_cmpR op_eq (pe_ix ix_tup (pv 4) pe_int (fun _ _ => rfl)) pe_str (nomark _)) (pss_one (ps_dput hu (pv 3) (pe_ix ix_tup (pv 4) pe_int (fun _ _ => rfl)) (pe_ix ix_tup (pv 4) pe_int (fun _ _ => rfl)) rfl)) pss_nil))
    (pss_cons (ps_if (PW.pt (pw_or (pt_cmpR (op_neD hu64) (pv 7) (pe_callTy call_tuple_of (by rfl) T.b_tuple (by decide +kernel) (pa_cons (pe_lc (own := [("block", 10)]) (g := gName 10) (tt := tYes) rfl sc_law.nd (pi_range1 (by rfl) T.b_range (pa_cons pe_int pa_nil)) (blkOk_by (N := ["script", "tape", "table", "plain", "request", "before", "due", "after", "bent", "told", "block"]) (sc := defScope s_law) (by decide +kernel)) (fun _ _ _ _ _ => (pg_name (i := 10) sc_law.nd rfl (Or.inl rfl))) (fun _ _ _ _ _ => pts_nil) (fun _ _ _ _ _ => (pe_dget2 hu (pv 3) (pv 10) (pe_tup (pa_cons pe_int (pa_cons pe_int (pa_cons pe_int (pa_cons pe_int pa_nil))))) ⟨rfl, rfl, rfl, rfl⟩))) pa_nil)) (nomark _)) (pw_or1 (pt_cmpR (op_neD hu64) (pv 2) (pv 5) (nomark _))))) (pss_one (ps_ret pe_bl)) pss_nil)
    (pss_cons (ps_set (i := 2) sc_law.nd rfl (Or.inl rfl) (pv 7))
    (pss_cons (ps_set (i := 8) sc_law.nd rfl (Or.inl rfl) (pe_f G__law_bent hr (by decide) (by rfl) T.g__law_bent pass0 (pa_cons (pv 1) (pa_cons (pv 4) pa_nil))))
    (pss_cons (ps_set (i := 9) sc_law.nd rfl (Or.inl rfl) (pe_f G_is_request hr (by decide) (by rfl) T.g_is_request pass0 (pa_cons (pv 8) pa_nil)))
    (pss_one (ps_if (PW.pt (pw_or (pt_not (pt_val (pe_callB call_isi (by rfl) T.b_isinstance (by decide +kernel) (pa_cons (pv 9) (pa_cons (pe_bltn (v := .ty "bool") (by rfl) T.b_bool (by decide +kernel) rfl) pa_nil))))) (pw_or1 (pt_cmpR op_ne (pv 9) (pe_f G__law_due hr (by decide) (by rfl) T.g__law_due pass0 (pa_cons (pv 8) pa_nil)) (nomark _))))) (pss_one (ps_ret pe_bl)) pss_nil)))))))))))))
    (pss_one (ps_ret (pe_and (pe_not (pe_f G_is_request hr (by decide) (by rfl) T.g_is_request pass0 (pa_cons pe_non pa_nil))) (pe_one (pe_not (pe_f G_is_request hr (by decide) (by rfl) T.g_is_request pass0 (pa_cons (pe_lst (pa_cons pe_str (pa_cons pe_int pa_nil))) pa_nil))))))))))), ?_⟩
    refine ⟨_, rfl, a, _, rfl, .inl hS, fun l hl => ⟨(by show 4 ≤ sizeLine; decide), fun t ht0 => ?_⟩⟩
    have nlt : l ≠ t := (free_upd ht0).1.symm
    have T0 : Tp (upd (upd H l (.lst (ns.map V.int))) t (.lst [.ref l, .int 0, .int 0, .int 5])) t l :=
      ⟨⟨l, ns, 0, 0, 5⟩, rfl, upd_same, by rw [upd_ne nlt, upd_same], nlt, hlen, Nat.zero_le _, Int.le_refl _, by show (0 : Int) ≤ 5; decide, by show (5 : Int) < 2147483647; decide⟩
    refine ⟨rfl, fun tv H1 s1 tab0 => fun d hd => ?_⟩
    have s1d := Same.new (o := HO.dK []) (Same.refl H1) hd
    have T1 := (T0.same s1).same s1d
    have tab1 := tab0.same s1d
    have dt := (T0.same s1).nt hd
    have dl := (T0.same s1).nl hd
    refine ⟨_, rfl, _, rfl, t, l, 21, rfl, T1, by decide, by decide, fun m H2 kp2 T2 m0 m1 => ?_⟩
    refine ⟨t, l, m, rfl, T2, m0, by omega, fun p H3 xs rs kp3 T3 hp e3 hd3 hok hrs => ?_⟩
    have npt := T2.nt hp
    have ed3 : H3 d = some (.dK []) := kp3 _ _ (kp2 _ _ upd_same dt) dt
    have pl0 : Pl K H3 [] (List.replicate 8 [0, 0, 0, 0]) := ⟨rfl, fun b bl e => ⟨fun v hv => (nomatch hv), fun _ => by
      rw [List.getElem?_replicate] at e
      split at e
      · injection e with e
        exact e.symm
      · cases e⟩⟩
    refine ⟨p, rfl, ⟨xs, SqL.of e3⟩, for_list (xs := xs) (fun i σ H' => ∃ x4 x5 x6 x7 x8 x9 x10 tv ls kvs, σ = [some (.ref a), some (.ref t), some tv, some (.ref d), x4, x5, x6, x7, x8, x9, x10] ∧ Tp H' t l ∧ H' p = some (.lst xs) ∧ DpAll K H' xs (rs.map Rq.d) ∧ Tab K H' tv ls ∧ H' d = some (.dK kvs) ∧ kvs.length ≤ i ∧ Pl K H' kvs ls) ?_ ?_ ?_ ?_⟩
    · exact ⟨_, _, _, _, _, _, _, tv, _, [], rfl, T3, e3, hd3, (tab1.kp kp2 T1).kp kp3 T2, ed3, Nat.le_refl _, pl0⟩
    · rintro i σ H' _ ⟨x4, x5, x6, x7, x8, x9, x10, tv, ls, kvs, _, _, e, _⟩
      exact SqL.of e
    · rintro i x σ H4 hx ⟨x4, x5, x6, x7, x8, x9, x10, tv, ls, kvs, rfl, T4, e4, hd4, tab4, ed4, hkv, pl4⟩
      obtain ⟨rd, hrd, hxd⟩ := dpAll_at hd4 hx
      obtain ⟨r, hr0, rfl⟩ : ∃ r, rs[i]? = some r ∧ r.d = rd := by
        rw [List.getElem?_map] at hrd
        cases q : rs[i]? with
        | none =>
          rw [q] at hrd
          cases hrd
        | some r =>
          rw [q] at hrd
          exact ⟨r, rfl, Option.some.inj hrd⟩
      have rok := hok r (List.mem_of_getElem? hr0)
      have hi : i < rs.length := (List.getElem?_eq_some_iff.mp hr0).1
      have nlr := noL_rq r
      -- before
      obtain ⟨tq, txs, rfl, htq, htd, hl8⟩ := id tab4
      refine ⟨_, rfl, tq, txs, rfl, .inr (SqT.of htq), fun q1 f1 => ⟨q1, _, rfl, .inl ⟨SqL.of upd_same, fun q2 f2 => ?_⟩⟩⟩
      have s5 := (Same.new (o := HO.lst txs) (Same.refl H4) f1).trans (Same.new (o := HO.tup txs) (Same.refl _) f2)
      have hbef : Dp K _ (.ref q2) (.tuple (ls.map dBlk)) := .tup (SqT.of upd_same) (htd.same s5)
      -- due
      refine ⟨(by show 2 ≤ sizeLine; decide), fun q3 f3 => ?_⟩
      have s6' := Same.new (o := HO.tup [V.str "ok", .non]) (Same.refl _) f3
      have s6 := s5.trans s6'
      refine ⟨fun σ' H' => Same H4 H' ∧ Dp K H' (.ref q2) (.tuple (ls.map dBlk)) ∧ ∃ dv, Dp K H' dv (ansD ls r) ∧ σ' = [some (.ref a), some (.ref t), some (.ref tq), some (.ref d), some x, some (.ref q2), some dv, x7, x8, x9, x10], ?_, ?_⟩
      · obtain ⟨rq, rfl, hrq⟩ := rq_parts (hxd.same s6)
        cases r with
        | rd b =>
          have hb : b < 8 := rok
          have hrq : SqT K _ rq [.str "read", .int (b : Int)] := hrq
          refine ⟨_, rfl, rq, _, _, _, rfl, rfl, hrq, rfl, rfl, _, rfl, ?_⟩
          refine ⟨_, rfl, d, rfl, .inl ⟨kvs, .inl (s6 _ _ ed4)⟩, _, rfl, rq, _, _, _, rfl, rfl, hrq, rfl, (by show 4 ≤ sizeLine; decide), fun q4 f4 => ?_⟩
          have s7 := s6.trans (Same.new (o := HO.tup ([0, 0, 0, 0].map V.int)) (Same.refl _) f4)
          refine ⟨_, DGet.k (k := Sum.inl (b : Int)) (s7 _ _ ed4), (by show 2 ≤ sizeLine; decide), fun q5 f5 => ?_⟩
          obtain ⟨bl, hbl⟩ : ∃ bl, ls[b]? = some bl := ⟨_, List.getElem?_eq_getElem (by omega)⟩
          have hvF : ∀ H', Same H4 H' → H' q4 = some (.tup ([0, 0, 0, 0].map V.int)) → Dp K H' ((valV kvs (Sum.inl (b : Int))).getD (.ref q4)) (dBlk bl) := fun H' s e => by
            obtain ⟨g1, g2⟩ := (pl4.same s).2 b bl hbl
            cases q : valV kvs (Sum.inl (b : Int)) with
            | some v => exact g1 v q
            | none =>
              rw [g2 q]
              exact .tup (SqT.of e) (dp_ints [0, 0, 0, 0])
          have hv := hvF _ s7 upd_same
          have s8' := Same.new (o := HO.tup [V.str "ok", (valV kvs (Sum.inl (b : Int))).getD (.ref q4)]) (Same.refl _) f5
          have s8 := s7.trans s8'
          refine ⟨s8, (hbef.same (fun _ _ h => h)).same ?_, _, .tup (SqT.of upd_same) (.cons (.str _) (.cons ?_ .nil)), rfl⟩
          · exact fun c o h => s8' c o (Same.new (o := HO.tup ([0, 0, 0, 0].map V.int)) (Same.refl _) f4 c o (s6' c o h))
          · rw [hbl]
            exact hv.same s8'
        | wr b l =>
          obtain ⟨c, hrq, _⟩ := hrq
          refine ⟨_, rfl, rq, _, _, _, rfl, rfl, hrq, rfl, rfl, _, rfl, ?_⟩
          exact ⟨s6, hbef.same s6', _, .tup (SqT.of upd_same) (.cons (.str _) (.cons .non .nil)), rfl⟩
      clear s5 s6 s6' hbef f3
      rintro σ' H5 ⟨s5, hbef, dv, hdv, rfl⟩
      -- the answer
      refine ⟨_, rfl, _, rfl, _, x, ls, r, rfl, tab4.same s5, hxd.same s5, rok, fun av H6 s6' hav => ?_⟩
      refine ⟨_, rfl, ?_⟩
      refine ne_same hav (hdv.same s6') (shaped_ans ls r) (shaped_ans ls r) (eqv_self (shaped_ans ls r)) ?_
      have s46 := s5.trans s6'
      refine ⟨_, rfl, x, _, rfl, hxd.same s46, fun H7 s7' => ⟨_, _, rfl, rfl, _, rfl, ?_⟩⟩
      rw [reqD_rq rok]
      have s47 := s46.trans s7'
      -- after
      refine ⟨_, rfl, _, rfl, _, x, ls, r, rfl, tab4.same s47, hxd.same s47, rok, fun fv H8 s8' htf => ?_⟩
      have s48 := s47.trans s8'
      have hbef8 : Dp K H8 (.ref q2) (.tuple (ls.map dBlk)) := ((hbef.same s6').same s7').same s8'
      -- the plain dict
      refine ⟨fun σ' H' => TSame K H4 H' ∧ Tp H' t l ∧ H' p = some (.lst xs) ∧ DpAll K H' xs (rs.map Rq.d) ∧ Tab K H' (.ref tq) ls ∧ Dp K H' (.ref q2) (.tuple (ls.map dBlk)) ∧ Tab K H' fv (aftL ls r) ∧ (∃ kvs', H' d = some (.dK kvs') ∧ kvs'.length ≤ i + 1 ∧ Pl K H' kvs' (aftL ls r)) ∧ σ' = [some (.ref a), some (.ref t), some (.ref tq), some (.ref d), some x, some (.ref q2), some dv, some fv, x8, x9, x10], ?_, ?_⟩
      · obtain ⟨rq, rfl, hrq⟩ := rq_parts (hxd.same s48)
        cases r with
        | rd b =>
          have hrq : SqT K _ rq [.str "read", .int (b : Int)] := hrq
          refine ⟨_, rfl, rq, _, _, _, rfl, rfl, hrq, rfl, rfl, _, rfl, ?_⟩
          exact ⟨TSame.same s48, T4.same s48, s48 _ _ e4, hd4.same s48, tab4.same s48, hbef8, htf, ⟨kvs, s48 _ _ ed4, by omega, pl4.same s48⟩, rfl⟩
        | wr b bl =>
          obtain ⟨c, hrq, hc⟩ := hrq
          refine ⟨_, rfl, rq, _, _, _, rfl, rfl, hrq, rfl, rfl, _, rfl, ?_⟩
          have ed8 := s48 _ _ ed4
          have hkl : kvs.length < sizeLine := Nat.lt_of_le_of_lt (show kvs.length ≤ 100 by omega) (by decide)
          refine ⟨_, rfl, rq, _, _, _, rfl, rfl, hrq, rfl, _, rfl, _, rfl, rq, _, _, _, rfl, rfl, hrq, rfl, d, _, rfl, DPut.k (k := Sum.inl (b : Int)) ed8 hkl, ?_⟩
          have ts : TSame K H8 (upd H8 d (.dK (putK kvs (Sum.inl (b : Int)) c))) := TSame.upd (fun ys e => by rw [ed8] at e; cases e) (fun ob ys e => by rw [ed8] at e; cases e)
          have tsu : ∀ {v ls'}, Tab K H8 v ls' → Tab K (upd H8 d (.dK (putK kvs (Sum.inl (b : Int)) c))) v ls' := fun {v ls'} h => by
            obtain ⟨q, ys, e, hq, hd, hl⟩ := h
            refine ⟨q, ys, e, ?_, Rb.DpAll.ts ts _ _ (noLs_blks ls') hd, hl⟩
            rw [upd_ne (fun z => by subst z; rw [ed8] at hq; cases hq)]
            exact hq
          refine ⟨(TSame.same s48).trans ts, (T4.same s48).upd dt dl, ?_, Rb.DpAll.ts ts _ _ (noLs_rq rs) (hd4.same s48), tsu (tab4.same s48), Rb.Dp.ts ts _ _ (noLs_blks ls) hbef8, tsu htf, ⟨_, upd_same, Nat.le_trans (length_putK _ _ _) (by omega), ((pl4.same s48).put hc).ts ts⟩, rfl⟩
          rw [upd_ne (fun z => by
            have e8 := s48 _ _ e4
            rw [z, ed8] at e8
            cases e8)]
          exact s48 _ _ e4
      have hxd4 := hxd
      clear hdv hav hbef hbef8 htf s5 s46 s47 s48 e4 hd4 tab4 ed4 hkv pl4
      rintro σ' H9 ⟨ts9, T9, e9, hd9, tab9, hbef9, htf9, ⟨kvs', ed9, hkv', pl9⟩, rfl⟩
      have hxd9 : Dp K H9 x r.d := Rb.Dp.ts ts9 _ _ nlr hxd4
      have l8 : (aftL ls r).length = 8 := pl9.1
      -- after != the dict's
      refine ⟨_, rfl, 8, rfl, by decide, by decide, fun D hD => ?_⟩
      refine lc_range (n := 8) (fun j H' => ∃ vs, H' D = some (.lst vs) ∧ DpAll K H' vs (((aftL ls r).take j).map dBlk) ∧ Same H9 H') ?_ ?_ ?_
      · exact ⟨[], upd_same, .nil, Same.new (Same.refl H9) hD⟩
      · rintro j H' hj ⟨vs, eD, hvs, s9⟩
        obtain ⟨bl, hbl⟩ : ∃ bl, (aftL ls r)[j]? = some bl := ⟨_, List.getElem?_eq_getElem (by omega)⟩
        refine ⟨rfl, _, rfl, d, rfl, .inl ⟨kvs', .inl (s9 _ _ ed9)⟩, _, rfl, (by show 4 ≤ sizeLine; decide), fun q4 f4 => ?_⟩
        have s10' := Same.new (o := HO.tup ([0, 0, 0, 0].map V.int)) (Same.refl H') f4
        have s10 := s9.trans s10'
        have hvF : ∀ H'', Same H9 H'' → H'' q4 = some (.tup ([0, 0, 0, 0].map V.int)) → Dp K H'' ((valV kvs' (Sum.inl (j : Int))).getD (.ref q4)) (dBlk bl) := fun H'' s e => by
          obtain ⟨g1, g2⟩ := (pl9.same s).2 j bl hbl
          cases q : valV kvs' (Sum.inl (j : Int)) with
          | some v => exact g1 v q
          | none =>
            rw [g2 q]
            exact .tup (SqT.of e) (dp_ints [0, 0, 0, 0])
        have hv := hvF _ s10 upd_same
        have ej : (V.int ((0 : Int) + (j : Int))) = kV (Sum.inl (j : Int)) := congrArg V.int (Int.zero_add _)
        have eD' := s10' _ _ eD
        have lvs : vs.length < sizeLine := by
          rw [dpAll_len hvs, List.length_map, List.length_take]
          exact Nat.lt_of_le_of_lt (Nat.min_le_left _ _) (Nat.lt_trans hj (by decide))
        refine ⟨_, by rw [ej]; exact DGet.k (s10 _ _ ed9), _, eD', lvs, _, upd_same, ?_, Same.put s10 hD⟩
        have ts : TSame K _ (upd (upd H' q4 (HO.tup ([0, 0, 0, 0].map V.int))) D (.lst (vs ++ [(valV kvs' (Sum.inl (j : Int))).getD (.ref q4)]))) := TSame.lst eD'
        rw [List.take_add_one, hbl, List.map_append]
        exact Rb.DpAll.app (Rb.DpAll.ts ts _ _ (noLs_blks _) (hvs.same s10')) (.cons (Rb.Dp.ts ts _ _ (noL_blk _) hv) .nil)
      · rintro H' ⟨vs, eD, hvs, s9⟩
        rw [← l8, List.take_length] at hvs
        refine ⟨D, _, rfl, .inl ⟨SqL.of eD, fun q5 f5 => ?_⟩⟩
        have s10' := Same.new (o := HO.tup vs) (Same.refl H') f5
        have s10 := s9.trans s10'
        refine ne_same (htf9.same s10).dp (.tup (SqT.of upd_same) (hvs.same s10')) (shaped_tab _) (shaped_tab _) (eqv_self (shaped_tab _)) ?_
        refine ⟨_, rfl, _, rfl, ?_⟩
        refine ne_same (tab9.same s10).dp (hbef9.same s10) (shaped_tab _) (shaped_tab _) (eqv_self (shaped_tab _)) ?_
        -- table, bent
        refine ⟨_, rfl, _, rfl, _, rfl, t, l, x, r, rfl, T9.same s10, hxd9.same s10, fun bv bds H11 kp11 T11 hbv hgood => ?_⟩
        refine ⟨_, rfl, bv, _, rfl, hbv, fun H12 s12 => ?_⟩
        refine ⟨_, rfl, _, _, _, _, true, rfl, .ty _, .base (.bl _), kit_ty (a := "bool") (b := "bool") (by decide +kernel), _, rfl, ?_⟩
        refine ⟨_, rfl, _, rfl, bv, bds, rfl, hbv.same s12, hgood, rfl, _, rfl, ite_nd ?_⟩
        have T10 := T9.same s10
        have ts12 : TSame K _ H12 := ((kp11.ts T10).trans (TSame.same s12))
        exact ⟨_, _, _, _, _, _, _, fv, aftL ls r, kvs', rfl, T11.same s12, s12 _ _ (kp11 _ _ (s10 _ _ e9) npt), Rb.DpAll.ts ts12 _ _ (noLs_rq rs) (hd9.same s10), ((htf9.same s10).kp kp11 T10).same s12, s12 _ _ (kp11 _ _ (s10 _ _ ed9) dt), hkv', (pl9.same s10).ts ts12⟩
    · rintro σ H' ⟨x4, x5, x6, x7, x8, x9, x10, tv, ls, kvs, rfl, _⟩
      refine ⟨_, .none, rfl, .non, fun H5 s5 => ⟨_, rfl, _, rfl, ?_⟩⟩
      refine ⟨(by show 2 ≤ sizeLine; decide), fun q hq => ⟨_, .list [.str "read", .int 0], rfl, .lst (SqL.of upd_same) (.cons (.str _) (.cons (.int _) .nil)), fun H6 s6 => ⟨_, rfl, k _⟩⟩⟩
end
end Rb
namespace Rb
open PySem PySem.Spec PyProof.Rows L2
abbrev R : PySem.W.OpenRow := PySem.W.OpenLaw.row PySem.Challenge.rw_ringbound_k13_requests_on_a_plain_table
abbrev hk : PySem.W.Hook := hookR 4 fa fn ts exs
def ob (s : PySem.W.SharedT) : AlR := obsR 4 fa fn ts exs (HandSHeadRun.getT s)
theorem ob_eq (s : PySem.W.SharedT) : ob s = hk.obs s.abs := obsR_eq (HandSHeadRun.getT_eq s)
theorem run0 (w : World) : HandSHeadRun.RunEq R (PySem.W.view R.prog [lawAt]) hk ob 4000 loose (w.withFollow "special-get-raises" false) := by
  intro os
  kernel_rfl
theorem run1 (w : World) : HandSHeadRun.RunEq R (PySem.W.view R.prog [lawAt]) hk ob 4000 loose (w.withFollow "special-get-raises" true) := by
  intro os
  kernel_rfl
theorem run (w : World) : HandSHeadRun.RunEq R (PySem.W.view R.prog [lawAt]) hk ob 4000 loose w := PySem.W.byRow2 "special-get-raises" run0 run1 w
end Rb
namespace Rb
open PySem PySem.Spec PyProof.Rows L2
theorem facts {P : Program} {w : World} {K : PySem.W.Frag} {h : Heap} {mg : Str → Option Value} {f : Addr} (X : K.In h) (G : h.Ns mainGlobals mg) (hfa : mg ("law" : Str) = some (.ref f)) (c : SaysR fa fn ts exs w K) :
    ∃ fd : FuncData, (∀ (s : Shared) (v : Value), BindsTo s fd ⟨[v], []⟩ [("script", v)]) ∧ ∀ base : Heap, K.In base → base.Ns mainGlobals mg → FnOk P w K mg base CX0 8 f fd ["script"] (spLaw K) := by
  have T := top_of X G c
  obtain ⟨fd, F⟩ := T.d_law
  have e := hfa.symm.trans T.g_law
  cases e
  have b := FunD.bindsA (ps := ["script"]) F fun _ _ _ _ _ _ us hl => match us, hl with | [_], _ => rfl
  exact ⟨fd, fun s v => b s [v] rfl, fun base _ _ => ok_law T F⟩
end Rb
open PySem PySem.W PySem.Calls PyProof.Rows
theorem PySem.Challenge.cw_ringbound_k13_requests_on_a_plain_table_holds : PySem.Challenge.rw_ringbound_k13_requests_on_a_plain_table.Holds := by
  w_on; o_law
  refine HandSHeadRun.head_any (r := OpenLaw.row PySem.Challenge.rw_ringbound_k13_requests_on_a_plain_table) (q := view (OpenLaw.row PySem.Challenge.rw_ringbound_k13_requests_on_a_plain_table).prog [Rb.lawAt]) (H := Rb.hk) (ob := Rb.ob) (M := 4000) (loose := Rb.loose)
    (d := HandSHeadRun.topDef (OpenLaw.row PySem.Challenge.rw_ringbound_k13_requests_on_a_plain_table).prog Rb.lawAt) (kwd := []) Rb.ob_eq
    (by kernel_rfl) (fun s => by kernel_rfl) Rb.run (by kernel_rfl) (by kernel_rfl) (by kernel_rfl) (by rfl) (by first | assumption | decide +kernel) (by decide +kernel) ⟨rfl, rfl, rfl, rfl, rfl, by decide +kernel⟩ ?hw ?hc
  case hw => w_witness2
  case hc =>
    refine L2.walk_ofE (l := PySem.Challenge.rw_ringbound_k13_requests_on_a_plain_table) (n := 63) (k := 8) (x := "script") (CX := L2.CX0) rfl (by decide) (by kernel_rfl) ⟨rfl, by decide, by decide⟩ ?F (fun _ _ _ _ z => z)
    intro w mg fa h Y G hmg0
    obtain ⟨K, KX, c⟩ := Y
    have hmg : mg ("law" : PySem.Str) = some (.ref fa) := by
      have e : (HandSHeadRun.topDef (OpenLaw.row PySem.Challenge.rw_ringbound_k13_requests_on_a_plain_table).prog Rb.lawAt).name = ("law" : PySem.Str) := by kernel_rfl
      rw [← e]
      exact hmg0
    obtain ⟨fd, hb, hF⟩ := Rb.facts (P := (PySem.Challenge.rw_ringbound_k13_requests_on_a_plain_table).prog) (w := w) KX G hmg c
    exact ⟨K, fd, Rb.spLaw K, KX, hb, fun H a ns hl _ hS => ⟨a, ns, rfl, hS, hl, fun _ => rfl⟩, hF⟩
