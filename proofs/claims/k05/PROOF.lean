import PyProof.Rows.All
import Wide.All
import OpenK.AllK
import Wide.FinOn
import HandS.ForMost
import HandS.ForExc
import HandS.ExcInit
import HandS.ExcIs
import HandS.IsInst
import HandS.Steps
import HandS.TupMul
import HandS.TupAny
import HandS.SortInts
import HandS.Defaults
import HandS.HeadHook3
import HandS.HeadHook4
import HandS.HeadEnd
import HandS.Head2
import KE.KUnpackStar
import HandS.Zip
import KE.GoesMore
import KE.GoesZip
import KE.KTurns
import HandS.HeadHook2
import PyProof.TypeEq
import HandS.Star
import HandS.Flow
import HandS.Style
import PySem.Challenge.RW_ringbound_k05_whole_rings
set_option Elab.async false
set_option linter.all false
set_option maxRecDepth 100000
set_option maxHeartbeats 0
/-! The layer of this program: rules that the hand layer lacks. -/
namespace Rb
open PySem PySem.Spec PyProof.Rows L2

section
variable {X : Cx} {x m : Str} {C f : Addr} {CX : CXT} {k : Nat} {fd : FuncData} {ps : List Str} {sp : Sp} {ds : List Value} {dvs : List V} {E : XK}
  {e : Expr} {es : List Expr} {t : TA} {p1 p2 pos : Pos} {mc : Value}

/-- what is read of a class: the function that stands under a name -/
structure ClsFn (K : PySem.W.Frag) (C : Addr) (mc : Value) (m : Str) (f : Addr) : Prop where
  rd : PySem.W.readsIn K C mc = true
  ga : PySem.W.specialIn K (.ref C) "__getattribute__" = some (some (.builtin "type.__getattribute__"))
  fn : PySem.W.findCls K (.ref C) mc m = some (.val (.ref f))
  kp : PySem.W.keepIn K (.ref f) = true

/-- Base.m(e, ..): a def called off its class -/
theorem pe_clsfn {pl : Sem Bool} (c : ClsFn X.K C mc m f) (F : FnOk X.prog X.w X.K X.mg X.base CX k f fd ps sp) (hr : Room k X.A)
    (hg : Gl X x) (hm : X.mg x = some (.ref C)) (hb : Binds X.K fd ps ds) (hd : Vals dvs ds) (hx : Passes CX X E) (hP : PA X (e :: es) t)
    (hc : eval (.Call (.Attribute (.Name x p1) m p2) (e :: es) [] pos) X.env = (do
      let ov ← eval (.Name x p1) X.env
      standAt p2.atName
      let (g, first) ← holding [ov] (getMethod ov m pl)
      callWith pos g first (backTo pos (starEach (e :: es) X.env)) (backToKw pos (keywordEach [] X.env))) := by rfl)
    (hs1 : starEach (e :: es) X.env = (false, eval e X.env) :: starEach es X.env := by rfl)
    (hs2 : (backTo pos (starEach es X.env)).any (·.1) = false := by rfl) (hdb : (x == ("__debug__" : Str)) = false := by decide) :
    PE X (.Call (.Attribute (.Name x p1) m p2) (e :: es) [] pos) (tCall sp dvs E t) := by
  refine ⟨fun pins s σ H Q I hw => ?_⟩
  refine PySem.W.methodCall_KW (ld_glob I hg hm ?_ hdb) hc
  refine PySem.W.method_cls I.kIn c.ga ?_
  refine PySem.W.cls_value I.kIn c.rd c.fn rfl ?_
  refine PySem.W.callWith_K (h₀ := X.base) I.ok.mod.kin c.kp ?_ hs1 hs2
  refine thn (hP.run pos pins _ σ H _ (I.tok _) hw) fun us s1 hh => ?_
  obtain ⟨vs, H1, I1, r, q⟩ := hh
  exact ⟨I1.kIn, run_fn F hr hb hd hx I1 r q⟩
end

/-! ### an exception whose __init__ leaves nothing -/
section
variable {X : Cx} {pins : List (Addr × Obj)} {σ : L2.St}
theorem bare_end {H1 : Hp} {hp hp2 h2 : Heap} {g1 g2 : Array GenState} {d1 d2 : Drawn} {t1 t2 : Nat} {os1 os2 : OsState} {a C : Addr}
    (I1 : Inv X pins σ H1 ⟨hp, g1, d1, t1, os1⟩) (ha : hp.objs.size ≤ a) (kk : ∀ b o, hp.get? b = some o → hp2.get? b = some o)
    (un : Un (frs X.stack) [] (upd H1 a (exo a C none)) (upd H1 a (exo a C none)) hp2 h2)
    (hok : HOk X.prog X.w (upd H1 a (exo a C none)) h2) (ho : os2 = os1) (hb : AllBare g2) :
    ∃ (t0 : Addr) (G : Heap), Inv X pins σ H1 ⟨G, g2, d2, t2, os2⟩ ∧ (∀ b o, G.get? b = some o → h2.get? b = some o) ∧
      G.get? a = none ∧ H1 a = none ∧
      h2.get? a = some ({ cls := .ref C, dict := none, data := .fields #[.ref t0, .none, .none, .none, .bool false, .none] } : Obj) := by
  have na : H1 a = none := I1.hok.fresh ha
  have ea : upd H1 a (exo a C none) a = some (exo a C none) := upd_same
  obtain ⟨t0, hoe⟩ := exo_at hok ea
  obtain ⟨G, gin, gout⟩ := restrict h2 fun b => decide (b ≠ a)
  have gk : ∀ b, b ≠ a → G.get? b = h2.get? b := fun b q => gin b (decide_eq_true q)
  have ge : G.get? a = none := gout a (by simp)
  have old : ∀ {b : Addr} {o : Obj}, hp.get? b = some o → b ≠ a := fun z => Nat.ne_of_lt (Nat.lt_of_lt_of_le (Heap.lt_size z) ha)
  have trk : ∀ {b : Addr} {o : HO}, H1 b = some o → b ≠ a := fun {b o} z q => by
    rw [q, na] at z
    cases z
  have U : Un (frs X.stack) [] H1 H1 hp G := by
    constructor
    · intro b o z n q1 q2
      rw [gk b (old z)]
      exact un.keep b o (kk b o z) (by rw [upd_ne (old z)]; exact n) q1 q2
    · intro b o z n q1 q2
      rw [gk b (old z)]
      exact un.slot b o (kk b o z) (by rw [upd_ne (old z)]; exact n) q1 q2
    · intro b o z n q2
      exact n
    · intro b o z q2
      rw [gk b (old z)]
      exact un.there b o (kk b o z) q2
    · intro b xs z
      exact z
    · intro b o u z
      exact z
    · intro b ps z
      exact ⟨#[], by rw [z]; simp⟩
  have ok3 : HOk X.prog X.w H1 G := by
    intro b o z
    have nb := trk z
    have y := hok b o (by rw [upd_ne nb]; exact z)
    refine y.stay (fun c v hc r => ?_) (fun c r => ?_) (fun c xs r => ?_)
    · have nc : c ≠ a := by
        rcases hc with q | q
        · rw [q]
          exact nb
        · exact at_ne ea q exo_own
      rw [gk c nc]
      exact r
    · rw [upd_ne (at_ne ea r exo_own)] at r
      exact r
    · rw [upd_ne (at_ne ea r exo_tup)] at r
      exact r
  have J : Inv X pins σ H1 ⟨G, g2, d2, t2, os2⟩ := I1.call' (ch := []) ho U ok3 hb (fun b z => absurd z (by simp))
  refine ⟨t0, G, J, fun b o z => ?_, ge, na, hoe⟩
  by_cases q : b = a
  · rw [q, ge] at z
    cases z
  · rw [← gk b q]
    exact z

/-- C() where C's __init__ does no more than its base's -/
theorem pmk_bare0 {CX : CXT} {x : Str} {C fI : Addr} {k : Nat} {fd : FuncData} {ps : List Str} {sp : Sp} {pos p : Pos} (T : OexC X.K C)
    (iC : PySem.W.findIn X.K (.ref C) "__init__" = some (some (.ref fI))) (tI : PySem.W.typeIn X.K (.ref fI) = some (.type "function"))
    (F1 : FnOk X.prog X.w X.K X.mg X.base CX k fI fd ps sp) (hr : Room (k + 1) X.A) (hb : L2.Binds X.K fd ps [])
    (hx : Passes CX X (fun _ _ _ => False)) (hg : Gl X x) (hm : X.mg x = some (.ref C)) (hdb : (x == ("__debug__" : Str)) = false := by decide) :
    PMk X (.Call (.Name x p) [] [] pos) (fun _ H Q => (∀ a, H a = none → sp [.ref a] (upd H a (exo a C none)) (fun v H2 => v = .non ∧ H2 = upd H a (exo a C none)) (fun _ _ _ => False)) ∧ Q (.ref C) none H) := by
  intro pins s σ H Q I hw
  obtain ⟨nm, q, N, bs, bm, sn, sub, ab, col, dd, k0, k1, k2, k3, k5, hC, hbm⟩ := T.cls
  refine wpAny_Call_Name_kw (ld_glob I hg hm ?_ hdb)
  refine PySem.W.callWith_K0 I.kIn T.kC ?_
  show wpAny _ _ (call (.ref C) []) _ _ _
  obtain ⟨hp, g, dr, tk, os⟩ := s
  have hsz : hp.objs.size ≤ hp.objs.size + 1 := Nat.le_succ _
  have hn : H (hp.objs.size + 1) = none := I.hok.fresh hsz
  obtain ⟨hw1, hw2⟩ := hw
  have hq := hw1 (hp.objs.size + 1) hn
  have kk : ∀ b o, hp.get? b = some o → ((hp.push (PySem.W.kdv_tup [])).push (PySem.HandSPX.excO C hp.objs.size)).get? b = some o := fun b o z =>
    Heap.get?_push_of_some _ (Heap.get?_push_of_some _ z)
  have hget : ((hp.push (PySem.W.kdv_tup [])).push (PySem.HandSPX.excO C hp.objs.size)).get? (hp.objs.size + 1) = some (PySem.HandSPX.excO C hp.objs.size) := by heap_get
  have I2 := I.laid (t' := tk) (a := hp.objs.size + 1) (o := exo (hp.objs.size + 1) C none) kk hsz (exo_ok hget)
  have r2 : Vals [V.ref (hp.objs.size + 1)] [Value.ref (hp.objs.size + 1)] := .cons rfl .nil
  have lb := hb _ [Value.ref (hp.objs.size + 1)] I2.kIn (F1.len _ _ _ _ hq)
  refine wpAny_call (PySem.HandSPX.call_own F.excBase_ValueError (fun Y => PySem.HandSPX.refsVE_contains Y bm hbm) (I.kIn _ _ hC) (PySem.W.looks_findIn I.kIn iC)
    (fun self => PySem.W.bind_fn I.kIn self tI) (Nat.zero_le _)
    (codeAny_mono (F1.run _ X.stack _ _ ⟨[Value.ref (hp.objs.size + 1)], []⟩ [Value.ref (hp.objs.size + 1)] _ _ (fun _ _ _ => False) (hr.make C [] []) (I2.env0.make C [] []) lb r2 hq)
      fun r s' hq' => ?_))
  cases r with
  | error er => exact hx pins σ _ _ er s' I2 hq'
  | ok fl =>
    cases fl with
    | ret u =>
      obtain ⟨v, H2, os2, bare2, un2, hok2, rv, ev, eH⟩ := hq'
      subst ev
      subst eH
      obtain ⟨h2, g2, d2, t2, os'⟩ := s'
      obtain ⟨t0, G, J, kG, ge, na, hoe⟩ := bare_end (d2 := d2) (t2 := t2) I hsz kk un2 hok2 os2 bare2
      exact ⟨rv, ⟨_, _, _, ⟨G, g2, d2, t2, os'⟩, H, .ref C, none, rfl, J, kG, ge, hoe, ⟨rfl, rfl⟩, rfl, rfl, na, rfl, bare2, raises_own T.exC T.tyC, hw2⟩⟩
    | next => exact False.elim hq'
    | brk => exact False.elim hq'
    | cont => exact False.elim hq'
end
/-! ### defs by what they keep -/
/-- the def at f keeps sp; CX: what it may let out -/
structure FnC (P : Program) (w : World) (K : PySem.W.Frag) (mg : Str → Option Value) (base : Heap) (CX : CXT) (k : Nat) (f : Addr) (sp : Sp) : Prop where
  ex : ∃ (fd : FuncData) (ps : List Str), FnOk P w K mg base CX k f fd ps sp ∧ L2.Binds K fd ps [] ∧ PySem.W.keepIn K (.ref f) = true
section
variable {P : Program} {w : World} {K : PySem.W.Frag} {mg : Str → Option Value} {base : Heap}
theorem FnC.imp {CX : CXT} {k : Nat} {f : Addr} {sp sp' : Sp} (c : FnC P w K mg base CX k f sp) (h : ∀ vs H Q E, sp' vs H Q E → sp vs H Q E) : FnC P w K mg base CX k f sp' := by
  obtain ⟨fd, ps, F, b, kp⟩ := c.ex
  exact ⟨fd, ps, F.imp h, b, kp⟩
theorem fnc {CX : CXT} {x qual : Str} {params : Arguments} {body : List Stmt} {scope : Scope} {kws : List (Str × V)} {f : Addr} {N ps : List Str} {k : Nat} {sp : Sp}
    (F : ∃ fd, FunD K x qual params body scope [] kws f fd) (S : FnScope N ps scope)
    (bd : ∀ (kV doc pm : Value) (an : Option Addr) (cdv ct : Value) (us : List Value), us.length = ps.length → bindArgs (PySem.W.fnOf x qual params body scope .none kV doc pm an cdv ct) ⟨us, []⟩ = pure (ps.zip us))
    (len : ∀ vs H Q E, sp vs H Q E → vs.length = ps.length)
    (hb : ∀ (cdv : Value) (A : Around) (outer : List Env) (s : Shared) (H : Hp) (vs : List V) (Q : VK) (E : XK), Room k (A.deeper (envOfC qual scope s.heap.objs.size f cdv)) → sp vs H Q E →
      ∃ t, PSs (cxOf CX P w K mg base N qual scope f cdv A outer s H E) body t ∧ t { nx := fun _ H' => Q .non H', rt := Q } (start N vs) H) : FnC P w K mg base CX (k + 1) f sp := by
  obtain ⟨fd, F⟩ := F
  exact ⟨fd, ps, F.ok S len hb, F.bindsN bd, F.kp⟩
/-- a def that lets nothing out -/
theorem fnc0 {x qual : Str} {params : Arguments} {body : List Stmt} {scope : Scope} {kws : List (Str × V)} {f : Addr} {N ps : List Str} {k : Nat} {sp : Sp}
    (F : ∃ fd, FunD K x qual params body scope [] kws f fd) (S : FnScope N ps scope)
    (bd : ∀ (kV doc pm : Value) (an : Option Addr) (cdv ct : Value) (us : List Value), us.length = ps.length → bindArgs (PySem.W.fnOf x qual params body scope .none kV doc pm an cdv ct) ⟨us, []⟩ = pure (ps.zip us))
    (len : ∀ vs H Q E, sp vs H Q E → vs.length = ps.length)
    (hb : ∀ (cdv : Value) (A : Around) (outer : List Env) (s : Shared) (H : Hp) (vs : List V) (Q : VK) (E : XK), Room k (A.deeper (envOfC qual scope s.heap.objs.size f cdv)) → sp vs H Q E →
      ∃ t, PSs (cxOf CX0 P w K mg base N qual scope f cdv A outer s H E).nox body t ∧ t { nx := fun _ H' => Q .non H', rt := Q } (start N vs) H) : FnC P w K mg base CX0 (k + 1) f sp :=
  fnc F S bd len fun cdv A outer s H vs Q E hr h => by
    obtain ⟨t, h1, h2⟩ := hb cdv A outer s H vs Q E hr h
    exact ⟨t, h1.nox, h2⟩
end
section
variable {X : Cx} {x m : Str} {C f : Addr} {CX : CXT} {k j : Nat} {sp : Sp} {E : XK} {ES : L2.St → XK} {e o : Expr} {es : List Expr} {t : TA} {ta : TE} {p apos pos : Pos}
theorem pe_f (c : FnC X.prog X.w X.K X.mg X.base CX k f sp) (hr : Room j X.A) (hk : k ≤ j) (hg : Gl X x) (hm : X.mg x = some (.ref f)) (hx : Passes CX X E) (ha : PA X (e :: es) t)
    (hdb : (x == ("__debug__" : Str)) = false := by decide) (h1 : starEach (e :: es) X.env = (false, eval e X.env) :: starEach es X.env := by rfl) (h2 : (backTo pos (starEach es X.env)).any (·.1) = false := by rfl) :
    PE X (.Call (.Name x p) (e :: es) [] pos) (tCall sp [] E t) := by
  obtain ⟨fd, ps, F, b, kp⟩ := c.ex
  exact pe_call F (hr.mono hk) hg hm kp b .nil hx ha hdb h1 h2
theorem pe_f0 (c : FnC X.prog X.w X.K X.mg X.base CX k f sp) (hr : Room j X.A) (hk : k ≤ j) (hg : Gl X x) (hm : X.mg x = some (.ref f)) (hx : Passes CX X E)
    (hdb : (x == ("__debug__" : Str)) = false := by decide) : PE X (.Call (.Name x p) [] [] pos) (tCall sp [] E tNil) := by
  obtain ⟨fd, ps, F, b, kp⟩ := c.ex
  exact pe_call0 F (hr.mono hk) hg hm kp b .nil hx hdb
/-- .. where what is raised is wished for at the slots -/
theorem pe_fS (c : FnC X.prog X.w X.K X.mg X.base CX k f sp) (hr : Room j X.A) (hk : k ≤ j) (hg : Gl X x) (hm : X.mg x = some (.ref f)) (hx : ∀ σ, PassesAt CX X σ (ES σ)) (ha : PA X (e :: es) t)
    (hdb : (x == ("__debug__" : Str)) = false := by decide) (h1 : starEach (e :: es) X.env = (false, eval e X.env) :: starEach es X.env := by rfl) (h2 : (backTo pos (starEach es X.env)).any (·.1) = false := by rfl) :
    PE X (.Call (.Name x p) (e :: es) [] pos) (tCallS sp ES t) := by
  obtain ⟨fd, ps, F, b, kp⟩ := c.ex
  exact pe_callS F (hr.mono hk) hg hm kp b hx ha hdb h1 h2
theorem pe_m {pl : Sem Bool} (c : FnC X.prog X.w X.K X.mg X.base CX k f sp) (hr : Room j X.A) (hk : k ≤ j) (hc : Cls X.K C) (hm : Meth X.K C m f) (hx : Passes CX X E) (ho : PE X o ta) (ha : PA X (e :: es) t)
    (h1 : starEach (e :: es) X.env = (false, eval e X.env) :: starEach es X.env := by rfl) (h2 : (backTo pos (starEach es X.env)).any (·.1) = false := by rfl)
    (h3 : eval (.Call (.Attribute o m apos) (e :: es) [] pos) X.env = (do
      let ov ← eval o X.env
      standAt apos.atName
      let (g, first) ← holding [ov] (getMethod ov m pl)
      callWith pos g first (backTo pos (starEach (e :: es) X.env)) (backToKw pos (keywordEach [] X.env))) := by rfl) :
    PE X (.Call (.Attribute o m apos) (e :: es) [] pos) (tMeth C m sp [] E ta t) := by
  obtain ⟨fd, ps, F, b, kp⟩ := c.ex
  exact pe_meth (pl := pl) ho hc hm F (hr.mono hk) b .nil hx ha h1 h2 h3
theorem pe_m0 {pl : Sem Bool} (c : FnC X.prog X.w X.K X.mg X.base CX k f sp) (hr : Room j X.A) (hk : k ≤ j) (hc : Cls X.K C) (hm : Meth X.K C m f) (hx : Passes CX X E) (ho : PE X o ta)
    (h3 : eval (.Call (.Attribute o m apos) [] [] pos) X.env = (do
      let ov ← eval o X.env
      standAt apos.atName
      let (g, first) ← holding [ov] (getMethod ov m pl)
      callWith pos g first (backTo pos (starEach [] X.env)) (backToKw pos (keywordEach [] X.env))) := by rfl) :
    PE X (.Call (.Attribute o m apos) [] [] pos) (tMeth C m sp [] E ta tNil) := by
  obtain ⟨fd, ps, F, b, kp⟩ := c.ex
  exact pe_meth0 (pl := pl) ho hc hm F (hr.mono hk) b .nil hx h3
theorem pe_k0 (c : FnC X.prog X.w X.K X.mg X.base CX k f sp) (hr : Room j X.A) (hk : k + 1 ≤ j) (hg : Gl X x) (hm : X.mg x = some (.ref C)) (M : Mk X.K C f) (hx : Passes CX X E) (hdb : (x == ("__debug__" : Str)) = false := by decide) :
    PE X (.Call (.Name x p) [] [] pos) (tMake C sp [] E tNil) := by
  obtain ⟨fd, ps, F, b, kp⟩ := c.ex
  exact pe_make0 M F (hr.mono hk) hg hm b .nil hx hdb
theorem pe_k (c : FnC X.prog X.w X.K X.mg X.base CX k f sp) (hr : Room j X.A) (hk : k + 1 ≤ j) (hg : Gl X x) (hm : X.mg x = some (.ref C)) (M : Mk X.K C f) (hx : Passes CX X E) (ha : PA X (e :: es) t)
    (hdb : (x == ("__debug__" : Str)) = false := by decide) (h1 : starEach (e :: es) X.env = (false, eval e X.env) :: starEach es X.env := by rfl) (h2 : (backTo pos (starEach es X.env)).any (·.1) = false := by rfl) :
    PE X (.Call (.Name x p) (e :: es) [] pos) (tMake C sp [] E t) := by
  obtain ⟨fd, ps, F, b, kp⟩ := c.ex
  exact pe_make M F (hr.mono hk) hg hm b .nil hx ha hdb h1 h2
/-- o.m(e, ..) where what is raised is wished for at the slots -/
def tMethAt (C : Addr) (m : Str) (sp : Sp) (ES : L2.St → XK) (ta : TE) (t : TA) : TE := fun σ H Q => ta σ H fun x H1 => ∃ a dx fs, x = .ref a ∧ H1 a = some (.ins C dx fs) ∧ fs.lookup m = none ∧ t σ H1 fun vs H2 => sp (x :: vs) H2 Q (ES σ)
theorem pe_mS {pl : Sem Bool} (c : FnC X.prog X.w X.K X.mg X.base CX k f sp) (hr : Room j X.A) (hk : k ≤ j) (hc : Cls X.K C) (hm : Meth X.K C m f) (hx : ∀ σ, PassesAt CX X σ (ES σ)) (ho : PE X o ta) (hA : PA X (e :: es) t)
    (h1 : starEach (e :: es) X.env = (false, eval e X.env) :: starEach es X.env := by rfl) (h2 : (backTo pos (starEach es X.env)).any (·.1) = false := by rfl)
    (h3 : eval (.Call (.Attribute o m apos) (e :: es) [] pos) X.env = (do
      let ov ← eval o X.env
      standAt apos.atName
      let (g, first) ← holding [ov] (getMethod ov m pl)
      callWith pos g first (backTo pos (starEach (e :: es) X.env)) (backToKw pos (keywordEach [] X.env))) := by rfl) :
    PE X (.Call (.Attribute o m apos) (e :: es) [] pos) (tMethAt C m sp ES ta t) := by
  obtain ⟨fd, ps, F, b, kp⟩ := c.ex
  refine ⟨fun pins s σ H Q I hw => ?_⟩
  refine PySem.W.methodCall_KW (pl := pl) (thn (ho.run pins s σ H _ I hw) fun u s1 hh => ?_) h3
  obtain ⟨y, H1, I1, ry, a, dx, fs, ey, ea, l, q⟩ := hh
  subst ey
  obtain rfl : u = Value.ref a := ry
  refine getmeth_ok I1 ea hc hm l ?_
  refine PySem.W.callWith_K (first := [.ref a]) (h₀ := X.base) I.ok.mod.kin hm.kp (thn (hA.run pos pins s1 σ H1 _ I1 q) fun us s2 hh => ?_) h1 h2
  obtain ⟨vs, H2, I2, r, q2⟩ := hh
  exact ⟨I2.kIn, run_fnS (us := .ref a :: us) (vs := .ref a :: vs) F (hr.mono hk) b (hx σ) I2 (.cons rfl r) q2⟩
/-- isinstance(e, C) of a caught exception, whatever its class -/
theorem pe_isX {a D : Addr} {oe : Obj} {pn : List (Addr × Obj)} {cls : Value} {d : Option Addr} (CD : ExcC X.K D) (hz : Zc cls d oe) (hf : ∃ vs, oe.data = .fields vs)
    (hg : Gl (X.suite a ((a, oe) :: pn)) "isinstance") (hm : X.mg "isinstance" = none) (hv : bootBuiltins "isinstance" = some (.builtin "isinstance")) (ha : PA (X.suite a ((a, oe) :: pn)) (e :: es) t)
    (h1 : starEach (e :: es) (X.suite a ((a, oe) :: pn)).env = (false, eval e (X.suite a ((a, oe) :: pn)).env) :: starEach es (X.suite a ((a, oe) :: pn)).env := by rfl) (h2 : (backTo pos (starEach es (X.suite a ((a, oe) :: pn)).env)).any (·.1) = false := by rfl) :
    PE (X.suite a ((a, oe) :: pn)) (.Call (.Name "isinstance" p) (e :: es) [] pos) (fun σ H Q => cls = .ref D ∧ d = none ∧ tCB (rIsE X.K D a) t σ H Q) := by
  refine ⟨fun pins s σ H Q I hw => ?_⟩
  obtain ⟨rfl, rfl, hw⟩ := hw
  exact (pe_callB (call_isE CD hz hf) hg hm hv ha (he := h1) (hpl := h2)).run pins s σ H Q I hw
end

/-! ### facts of the top beyond those of the hooks -/
/-- an exception class whose __init__ is its own -/
def oexB (K : PySem.W.Frag) (C : Addr) : Bool := match K.lookup C with
  | some ⟨.type t, _, .cls cd, sl⟩ => decide (t = "type") && (match cd.mro, sl.toList with
    | .ref D :: bm, [_, _, _, _, some (.builtin n), _] => decide (D = C) && (decide (n = "ValueError.__new__") && (!cd.hasDel && (cd.hasDict && PySem.HandSPX.refsVE bm)))
    | _, _ => false)
  | _ => false
theorem and2 {a b : Bool} (h : (a && b) = true) : a = true ∧ b = true := Bool.and_eq_true_iff.mp h
theorem oexB_ok {K : PySem.W.Frag} {C : Addr} (h : oexB K C = true) :
    ∃ nm q N bs bm sn sub ab col dd k0 k1 k2 k3 k5, K.lookup C = some (excClassObj nm q C N bs bm true sn sub ab col dd k0 k1 k2 k3 k5 "ValueError.__new__") ∧ PySem.HandSPX.refsVE bm = true := by
  unfold oexB at h
  split at h
  · rename_i t dd cd sl hl
    obtain ⟨h0, h⟩ := and2 h
    split at h
    · rename_i D bm k0 k1 k2 k3 n k5 e1 e2
      obtain ⟨h1, h⟩ := and2 h
      obtain ⟨h2, h⟩ := and2 h
      obtain ⟨h3, h⟩ := and2 h
      obtain ⟨h4, h5⟩ := and2 h
      have q0 : t = "type" := of_decide_eq_true h0
      have q1 : D = C := of_decide_eq_true h1
      have q2 : n = "ValueError.__new__" := of_decide_eq_true h2
      subst q0 q1 q2
      obtain ⟨nm, bs, mro, ns, qn, hd, sn, sub, ab, col, dl⟩ := cd
      dsimp only at e1 h3 h4
      subst e1
      subst h4
      have h3' : dl = false := by
        cases dl
        · rfl
        · cases h3
      subst h3'
      obtain ⟨l⟩ := sl
      have e3 : l = [k0, k1, k2, k3, some (.builtin "ValueError.__new__"), k5] := e2
      subst e3
      exact ⟨nm, qn, ns, bs, bm, sn, sub, ab, col, dd, k0, k1, k2, k3, k5, hl, h5⟩
    · cases h
  · cases h
inductive Ex where
  | oex (x : Str) | ity (x m : Str) | clf (x m : Str) | exi (x : Str) | kit (x y : Str) (b : Bool) | vei | tup (x : Str) (vs : List He.Dv) | fact (p : PySem.W.Frag → Bool)
def Ex.ok (K : PySem.W.Frag) : Ex → Bool
  | .oex x => oexB K (He.ga K x) && (He.eqO (PySem.W.findIn K (.ref (He.ga K x)) "__setattr__") (some (some (.builtin "object.__setattr__"))) &&
      (decide (PySem.W.subIn K (.ref (He.ga K x)) (.type "BaseException") = some true) && (decide (PySem.W.typeIn K (.ref (He.ga K x)) = some (.type "type")) && PySem.W.keepIn K (.ref (He.ga K x)))))
  | .ity x m => He.eqO (PySem.W.findIn K (.ref (He.ga K x)) m) (some (some (.ref (He.ma K (He.ga K x) m)))) && decide (PySem.W.typeIn K (.ref (He.ma K (He.ga K x) m)) = some (.type "function"))
  | .clf x m => PySem.W.readsIn K (He.ga K x) (.type "type") && (He.eqO (PySem.W.specialIn K (.ref (He.ga K x)) "__getattribute__") (some (some (.builtin "type.__getattribute__"))) &&
      ((match PySem.W.findCls K (.ref (He.ga K x)) (.type "type") m with | some (.val (.ref f)) => decide (f = He.ma K (He.ga K x) m) | _ => false) && PySem.W.keepIn K (.ref (He.ma K (He.ga K x) m))))
  | .exi x => He.eqO (PySem.W.findIn K (.ref (He.ga K x)) "__getattribute__") (some (some (.builtin "BaseException.__getattribute__"))) && (He.eqO (PySem.W.findIn K (.ref (He.ga K x)) "__getattr__") (some none) &&
      (decide (PySem.W.subIn K (.ref (He.ga K x)) (.type "BaseException") = some true) && (PySem.W.hasDictIn K (He.ga K x) && (He.eqO (PySem.W.findIn K (.ref (He.ga K x)) "__class__") (some (some (.builtin "object.__class__"))) &&
      (He.eqO (PySem.W.specialIn K (.builtin "object.__class__") "__get__") (some (some (.builtin "getset_descriptor.__get__"))) && (decide (PySem.W.takesIn K (.builtin "object.__class__") = some true) && decide (PySem.W.mroIn K (He.ga K x) (.type "object") = some true)))))))
  | .kit x y b => decide (PySem.W.kitOne K (.ref (He.ga K x)) (.ref (He.ga K y)) = some b)
  | .vei => (match PySem.W.findCls K (.type "ValueError") (.type "type") "__init__" with | some (.val (.builtin n)) => decide (n = "ValueError.__init__") | _ => false)
  | .tup x vs => He.tupB K x vs
  | .fact p => p K
section
variable {K : PySem.W.Frag} {x y m : Str} {b : Bool}
theorem oex_ok (c : (Ex.oex x).ok K = true) : OexC K (He.ga K x) := by
  obtain ⟨c1, c⟩ := and2 c
  obtain ⟨c2, c⟩ := and2 c
  obtain ⟨c3, c⟩ := and2 c
  obtain ⟨c4, c5⟩ := and2 c
  exact ⟨oexB_ok c1, He.eqO_ok c2, of_decide_eq_true c3, of_decide_eq_true c4, c5⟩
theorem ity_ok (c : (Ex.ity x m).ok K = true) : PySem.W.findIn K (.ref (He.ga K x)) m = some (some (.ref (He.ma K (He.ga K x) m))) ∧ PySem.W.typeIn K (.ref (He.ma K (He.ga K x) m)) = some (.type "function") := by
  obtain ⟨c1, c2⟩ := and2 c
  exact ⟨He.eqO_ok c1, of_decide_eq_true c2⟩
theorem clf_ok (c : (Ex.clf x m).ok K = true) : ClsFn K (He.ga K x) (.type "type") m (He.ma K (He.ga K x) m) := by
  obtain ⟨c1, c⟩ := and2 c
  obtain ⟨c2, c⟩ := and2 c
  obtain ⟨c3, c4⟩ := and2 c
  refine ⟨c1, He.eqO_ok c2, ?_, c4⟩
  split at c3
  · rename_i f hf
    rw [hf, of_decide_eq_true c3]
  · cases c3
theorem exi_ok (c : (Ex.exi x).ok K = true) : ExcC K (He.ga K x) := by
  obtain ⟨c1, c⟩ := and2 c
  obtain ⟨c2, c⟩ := and2 c
  obtain ⟨c3, c⟩ := and2 c
  obtain ⟨c4, c⟩ := and2 c
  obtain ⟨c5, c⟩ := and2 c
  obtain ⟨c6, c⟩ := and2 c
  obtain ⟨c7, c8⟩ := and2 c
  exact ⟨He.eqO_ok c1, He.eqO_ok c2, of_decide_eq_true c3, c4, He.eqO_ok c5, He.eqO_ok c6, of_decide_eq_true c7, of_decide_eq_true c8⟩
theorem kit_ok (c : (Ex.kit x y b).ok K = true) : PySem.W.kitOne K (.ref (He.ga K x)) (.ref (He.ga K y)) = some b := of_decide_eq_true c
theorem vei_ok (c : (Ex.vei).ok K = true) : PySem.W.findCls K (.type "ValueError") (.type "type") "__init__" = some (.val (.builtin "ValueError.__init__")) := by
  have c' : (match PySem.W.findCls K (.type "ValueError") (.type "type") "__init__" with | some (.val (.builtin n)) => decide (n = "ValueError.__init__") | _ => false) = true := c
  split at c'
  · rename_i n hn
    rw [hn, of_decide_eq_true c']
  · cases c'
theorem tup_ok {vs : List He.Dv} (c : (Ex.tup x vs).ok K = true) (H : Hp) : SqT K H (He.ga K x) (vs.map (He.Dv.v K)) := He.tupB_ok c H
end
/-- a const of the module, an int -/
theorem int_at {K : PySem.W.Frag} {h : Heap} {mg : Str → Option Value} {x : Str} {i : Int} (X : K.In h) (G : h.Ns mainGlobals mg) (c : (He.Fa.int x i).ok K = true) : ∃ u, mg x = some u ∧ RelV (.int i) u := by
  obtain ⟨t, e⟩ := He.int_ok X G c
  exact ⟨_, e, t, rfl⟩

section
variable {X : Cx} {x m : Str} {C f : Addr} {CX : CXT} {k j : Nat} {sp : Sp} {E : XK} {e : Expr} {es : List Expr} {t : TA} {p p1 p2 pos : Pos} {mc : Value}
theorem pe_cls {pl : Sem Bool} (c : ClsFn X.K C mc m f) (F : FnC X.prog X.w X.K X.mg X.base CX k f sp) (hr : Room j X.A) (hk : k ≤ j)
    (hg : Gl X x) (hm : X.mg x = some (.ref C)) (hx : Passes CX X E) (hP : PA X (e :: es) t)
    (hc : eval (.Call (.Attribute (.Name x p1) m p2) (e :: es) [] pos) X.env = (do
      let ov ← eval (.Name x p1) X.env
      standAt p2.atName
      let (g, first) ← holding [ov] (getMethod ov m pl)
      callWith pos g first (backTo pos (starEach (e :: es) X.env)) (backToKw pos (keywordEach [] X.env))) := by rfl)
    (hs1 : starEach (e :: es) X.env = (false, eval e X.env) :: starEach es X.env := by rfl)
    (hs2 : (backTo pos (starEach es X.env)).any (·.1) = false := by rfl) (hdb : (x == ("__debug__" : Str)) = false := by decide) :
    PE X (.Call (.Attribute (.Name x p1) m p2) (e :: es) [] pos) (tCall sp [] E t) := by
  obtain ⟨fd, ps, F, b, kp⟩ := F.ex
  exact pe_clsfn (pl := pl) c F (hr.mono hk) hg hm b .nil hx hP hc hs1 hs2 hdb
theorem pmk_bare (T : OexC X.K C) (i : PySem.W.findIn X.K (.ref C) "__init__" = some (some (.ref f))) (ti : PySem.W.typeIn X.K (.ref f) = some (.type "function"))
    (F : FnC X.prog X.w X.K X.mg X.base CX k f sp) (hr : Room j X.A) (hk : k + 1 ≤ j) (hx : Passes CX X (fun _ _ _ => False)) (hg : Gl X x) (hm : X.mg x = some (.ref C)) (hdb : (x == ("__debug__" : Str)) = false := by decide) :
    PMk X (.Call (.Name x p) [] [] pos) (fun _ H Q => (∀ a, H a = none → sp [.ref a] (upd H a (exo a C none)) (fun v H2 => v = .non ∧ H2 = upd H a (exo a C none)) (fun _ _ _ => False)) ∧ Q (.ref C) none H) := by
  obtain ⟨fd, ps, F, b, kp⟩ := F.ex
  exact pmk_bare0 T i ti F (hr.mono hk) b hx hg hm hdb
end

/-! ### the head's facts, the statics among them -/
def asR (g : Addr → Option Obj) : Nat → List Addr
  | 0 => [mainGlobals, cStatics]
  | n + 1 => He.growD g (asR g n)
abbrev AlR : Type := He.AlT × Bool
abbrev frR (n : Nat) (g : Addr → Option Obj) : PySem.W.Frag := He.frG g (asR g n)
def obsR (n : Nat) (fa : List He.Fa) (fn : List He.DefD) (ts : List He.Tab) (ex : List Ex) (g : Addr → Option Obj) : AlR := (He.obsT fa fn ts (frR n g), ex.all fun f => f.ok (frR n g))
structure SaysR (fa : List He.Fa) (fn : List He.DefD) (ts : List He.Tab) (ex : List Ex) (w : World) (K : PySem.W.Frag) : Prop where
  t : He.SaysT fa fn ts w K
  more : (ex.all fun f => f.ok K) = true
def hookR (n : Nat) (fa : List He.Fa) (fn : List He.DefD) (ts : List He.Tab) (ex : List Ex) : PySem.W.Hook where
  α := AlR
  obs := fun s => obsR n fa fn ts ex s.heap.get?
  val := fun w => (He.valT fn ts w, true)
  says := fun w h => ∃ K : PySem.W.Frag, K.In h ∧ SaysR fa fn ts ex w K
  of := fun _ _ e => ⟨_, He.frG_in, congrArg (fun z : AlR => z.1) e, congrArg (fun z : AlR => z.2) e⟩
  keeps := fun _ _ _ ⟨K, hK, c⟩ k => ⟨K, PySem.W.Frag.In.keeps hK k, c⟩
theorem obsR_eq {n : Nat} {fa : List He.Fa} {fn : List He.DefD} {ts : List He.Tab} {ex : List Ex} {g : Addr → Option Obj} {s : Shared} (h : ∀ a, g a = s.heap.get? a) : obsR n fa fn ts ex g = (hookR n fa fn ts ex).obs s := by
  have e : g = s.heap.get? := funext h
  rw [e]
  rfl
theorem ex_at {fa : List He.Fa} {fn : List He.DefD} {ts : List He.Tab} {ex : List Ex} {w : World} {K : PySem.W.Frag} (c : SaysR fa fn ts ex w K) (i : Nat) {f : Ex} (e : ex[i]? = some f) : f.ok K = true :=
  List.all_eq_true.mp c.more f (List.mem_of_getElem? e)

section
variable {X : Cx}
/-- a const of the module -/
theorem pe_gc {x : Str} {v : V} {pos : Pos} (hg : Gl X x) (h : ∃ u, X.mg x = some u ∧ RelV v u) (hdb : (x == ("__debug__" : Str)) = false := by decide) : PE X (.Name x pos) (tC v) := by
  obtain ⟨u, hm, r⟩ := h
  exact pe_glob hg hm r hdb
end

section
variable {X : Cx} {K : PySem.W.Frag}
/-- a field, the written part by name (within a comprehension's block) -/
theorem pe_fldK {e : Expr} {f : Str} {pos : Pos} {ta : TE} (hK : X.K = K) (he : PE X e ta) (hb : attributeBase e f X.env (eval e X.env) = eval e X.env) : PE X (.Attribute e f pos) (tFld K ta f) := by
  subst hK
  exact pe_fld he hb
end

/-! ### what is read without a change of the heap -/
section
variable {σ : L2.St} {H : Hp} {ta tb tc : TE} {i j l : Int} {a b : Bool} {K : PySem.W.Frag}
theorem val_orV (h1 : Val ta σ H (.bl a)) (h2 : Val tb σ H (.bl b)) : Val (tOrV ta tb) σ H (.bl (a || b)) := fun Q q => by
  refine h1 _ ⟨a, rfl, ?_⟩
  cases a
  · exact h2 Q q
  · exact q
theorem val_andV (h1 : Val ta σ H (.bl a)) (h2 : Val tb σ H (.bl b)) : Val (tAndV ta tb) σ H (.bl (a && b)) := fun Q q => by
  refine h1 _ ⟨a, rfl, ?_⟩
  cases a
  · exact q
  · exact h2 Q q
theorem val_i0 {g : Int → Int → V} (h1 : Val ta σ H (.int i)) (h2 : Val tb σ H (.int j)) : Val (tOp (rI0 g) ta tb) σ H (g i j) := fun Q q =>
  h1 _ (h2 _ ⟨i, j, rfl, rfl, q⟩)
theorem val_chain {p q : Int → Int → Bool} (h1 : Val ta σ H (.int i)) (h2 : Val tb σ H (.int j)) (h3 : Val tc σ H (.int l)) :
    Val (tChain (rI0 fun i j => .bl (p i j)) (rI0 fun i j => .bl (q i j)) ta tb tc) σ H (.bl (p i j && q j l)) := fun Q k => by
  refine h1 _ (h2 _ ⟨i, j, rfl, rfl, p i j, rfl, ?_⟩)
  cases e : p i j with
  | false =>
    rw [e] at k
    exact k
  | true =>
    rw [e] at k
    exact h3 _ ⟨j, l, rfl, rfl, k⟩
theorem ne_same {x y : V} {d e : PyData} {Q : Bool → Hp → Prop} (hx : Dp K H x d) (hy : Dp K H y e) (sx : SeqAt.shaped d = true) (sy : SeqAt.shaped e = true) (he : PyData.eqv d e = true) (k : Q false H) :
    rNeD K x y H (fun z H' => ∃ c, z = .bl c ∧ Q c H') := ⟨d, e, hx, hy, sx, sy, _, rfl, by
  rw [he]
  exact k⟩
theorem eq_same {x y : V} {d e : PyData} {Q : VK} (hx : Dp K H x d) (hy : Dp K H y e) (sx : SeqAt.shaped d = true) (sy : SeqAt.shaped e = true) (he : PyData.eqv d e = true) (k : Q (.bl true) H) :
    rEqD K x y H Q := ⟨d, e, hx, hy, sx, sy, by
  rw [he]
  exact k⟩
end

/-- the law's def: its function object is told -/
theorem fnk0 {P : Program} {w : World} {K : PySem.W.Frag} {mg : Str → Option Value} {base : Heap} {x qual : Str} {params : Arguments} {body : List Stmt} {scope : Scope} {kws : List (Str × V)} {f : Addr} {fd : FuncData} {N ps : List Str} {k : Nat} {sp : Sp}
    (F : FunD K x qual params body scope [] kws f fd) (S : FnScope N ps scope) (len : ∀ vs H Q E, sp vs H Q E → vs.length = ps.length)
    (hb : ∀ (cdv : Value) (A : Around) (outer : List Env) (s : Shared) (H : Hp) (vs : List V) (Q : VK) (E : XK), Room k (A.deeper (envOfC qual scope s.heap.objs.size f cdv)) → sp vs H Q E →
      ∃ t, PSs (cxOf CX0 P w K mg base N qual scope f cdv A outer s H E).nox body t ∧ t { nx := fun _ H' => Q .non H', rt := Q } (start N vs) H) : FnOk P w K mg base CX0 (k + 1) f fd ps sp :=
  F.ok S len fun cdv A outer s H vs Q E hr h => by
    obtain ⟨t, h1, h2⟩ := hb cdv A outer s H vs Q E hr h
    exact ⟨t, h1.nox, h2⟩
end Rb
/-! Objects by their fields; a memory as it lies in the heap. -/
namespace Rb
open PySem PySem.Spec PyProof.Rows L2
/-! ### fields by names -/
def fix (f : Str) : List Str → Option Nat
  | [] => none
  | n :: r => if f = n then some 0 else (fix f r).map (· + 1)
theorem zl {f : Str} {v : V} : ∀ {ns : List Str} {vs : List V} {i : Nat}, fix f ns = some i → vs[i]? = some v → (List.zip ns vs).lookup f = some v
  | [], _, _, h, _ => by cases h
  | n :: r, [], i, h, hv => by simp at hv
  | n :: r, x :: vs, i, h, hv => by
    unfold fix at h
    by_cases e : f = n
    · rw [if_pos e] at h
      cases h
      subst e
      show List.lookup f ((f, x) :: List.zip r vs) = some v
      simp at hv
      rw [List.lookup_cons_self, hv]
    · rw [if_neg e] at h
      cases q : fix f r with
      | none =>
        rw [q] at h
        cases h
      | some j =>
        rw [q] at h
        cases h
        show List.lookup f ((n, x) :: List.zip r vs) = some v
        have e' : (f == n) = false := by simpa using e
        rw [List.lookup_cons, e']
        exact zl q (by simpa using hv)
theorem zn {f : Str} : ∀ {ns : List Str} {vs : List V}, fix f ns = none → (List.zip ns vs).lookup f = none
  | [], _, _ => rfl
  | n :: r, [], _ => rfl
  | n :: r, x :: vs, h => by
    unfold fix at h
    by_cases e : f = n
    · rw [if_pos e] at h
      cases h
    · rw [if_neg e] at h
      cases q : fix f r with
      | some j =>
        rw [q] at h
        cases h
      | none =>
        show List.lookup f ((n, x) :: List.zip r vs) = none
        have e' : (f == n) = false := by simpa using e
        rw [List.lookup_cons, e']
        exact zn q
theorem zp {f : Str} {v : V} : ∀ {ns : List Str} {vs : List V} {i : Nat}, fix f ns = some i → ns.length = vs.length → putF f v (List.zip ns vs) = List.zip ns (vs.set i v)
  | [], _, _, h, _ => by cases h
  | n :: r, [], i, h, hl => by cases hl
  | n :: r, x :: vs, i, h, hl => by
    unfold fix at h
    by_cases e : f = n
    · rw [if_pos e] at h
      cases h
      subst e
      show (if f = f then (f, v) :: List.zip r vs else _) = (f, v) :: List.zip r vs
      rw [if_pos rfl]
    · rw [if_neg e] at h
      cases q : fix f r with
      | none =>
        rw [q] at h
        cases h
      | some j =>
        rw [q] at h
        cases h
        show (if n = f then (n, v) :: List.zip r vs else (n, x) :: putF f v (List.zip r vs)) = (n, x) :: List.zip r (vs.set j v)
        rw [if_neg (fun z => e z.symm), zp q (Nat.succ.inj hl)]
theorem zx {f : Str} {v : V} : ∀ {ns : List Str} {vs : List V}, fix f ns = none → ns.length = vs.length → putF f v (List.zip ns vs) = List.zip (ns ++ [f]) (vs ++ [v])
  | [], [], _, _ => rfl
  | [], _ :: _, _, hl => by cases hl
  | n :: r, [], _, hl => by cases hl
  | n :: r, x :: vs, h, hl => by
    unfold fix at h
    by_cases e : f = n
    · rw [if_pos e] at h
      cases h
    · rw [if_neg e] at h
      cases q : fix f r with
      | some j =>
        rw [q] at h
        cases h
      | none =>
        show (if n = f then (n, v) :: List.zip r vs else (n, x) :: putF f v (List.zip r vs)) = (n, x) :: List.zip (r ++ [f]) (vs ++ [v])
        rw [if_neg (fun z => e z.symm), zx q (Nat.succ.inj hl)]
/-! ### the objects of a memory -/
def gNames : List Str := ["_entries", "_queue", "_tickets"]
def gFld (e q : Addr) (n : Int) : List (Str × V) := List.zip gNames [.ref e, .ref q, .int n]
def mNames : List Str := ["count", "guards", "_cells", "_blocks", "_journals", "_log"]
def mFld (n : Int) (aG aC aB aJ aL : Addr) : List (Str × V) := List.zip mNames [.int n, .ref aG, .ref aC, .ref aB, .ref aJ, .ref aL]
/-- a guard: what its entries, its queue and its tickets are -/
structure GS where
  ents : List (Key × V)
  que : List V
  tix : Int
/-- where a guard lies: the object, its dict, its entries, its queue -/
structure GL where
  g : Addr
  d : Addr
  e : Addr
  q : Addr
def GL.all (L : GL) : List Addr := [L.d, L.g, L.e, L.q]
structure GuardAt (C : Addr) (L : GL) (H : Hp) (G : GS) : Prop where
  og : H L.g = some (.ins C L.d (gFld L.e L.q G.tix))
  od : H L.d = some (.own L.g)
  oe : H L.e = some (.dK G.ents)
  oq : H L.q = some (.lst G.que)
theorem GuardAt.keep {C : Addr} {L : GL} {H H' : Hp} {G : GS} (h : GuardAt C L H G) (k : ∀ b ∈ L.all, H' b = H b) : GuardAt C L H' G :=
  ⟨(k _ (by simp [GL.all])).trans h.og, (k _ (by simp [GL.all])).trans h.od, (k _ (by simp [GL.all])).trans h.oe, (k _ (by simp [GL.all])).trans h.oq⟩
structure MS where
  count : Int
  cells : List V
  bl : Nat → List V
  jo : List V
  log : List V
  gs : Nat → GS
structure ML where
  m : Addr
  d : Addr
  aG : Addr
  aC : Addr
  aB : Addr
  bl : Nat → Addr
  aJ : Addr
  aL : Addr
  gs : Nat → GL
def ML.all (L : ML) : List Addr := [L.m, L.d, L.aG] ++ (L.gs 0).all ++ (L.gs 1).all ++ [L.aC, L.aB, L.bl 0, L.bl 1, L.aJ, L.aL]
structure MemAt (Cm Cg : Addr) (L : ML) (H : Hp) (M : MS) : Prop where
  om : H L.m = some (.ins Cm L.d (mFld M.count L.aG L.aC L.aB L.aJ L.aL))
  od : H L.d = some (.own L.m)
  og : H L.aG = some (.lst [.ref (L.gs 0).g, .ref (L.gs 1).g])
  oc : H L.aC = some (.lst M.cells)
  ob : H L.aB = some (.lst [.ref (L.bl 0), .ref (L.bl 1)])
  obl : ∀ d, d < 2 → H (L.bl d) = some (.lst (M.bl d))
  oj : H L.aJ = some (.lst M.jo)
  ol : H L.aL = some (.lst M.log)
  gu : ∀ d, d < 2 → GuardAt Cg (L.gs d) H (M.gs d)
  nd : L.all.Nodup
theorem lt2 {d : Nat} (h : d < 2) : d = 0 ∨ d = 1 := by omega
theorem ML.in_g {L : ML} {d : Nat} (hd : d < 2) {b : Addr} (h : b ∈ (L.gs d).all) : b ∈ L.all := by
  unfold ML.all
  rcases lt2 hd with rfl | rfl
  · exact List.mem_append_left _ (List.mem_append_left _ (List.mem_append_right _ h))
  · exact List.mem_append_left _ (List.mem_append_right _ h)
theorem ML.in_b {L : ML} {d : Nat} (hd : d < 2) : L.bl d ∈ L.all := by
  unfold ML.all
  rcases lt2 hd with rfl | rfl
  · simp
  · simp
/-- what lies outside of the memory does not matter -/
theorem MemAt.keep {Cm Cg : Addr} {L : ML} {H H' : Hp} {M : MS} (h : MemAt Cm Cg L H M) (k : ∀ b ∈ L.all, H' b = H b) : MemAt Cm Cg L H' M where
  om := (k _ (by simp [ML.all])).trans h.om
  od := (k _ (by simp [ML.all])).trans h.od
  og := (k _ (by simp [ML.all])).trans h.og
  oc := (k _ (by simp [ML.all])).trans h.oc
  ob := (k _ (by simp [ML.all])).trans h.ob
  obl := fun d hd => (k _ (ML.in_b hd)).trans (h.obl d hd)
  oj := (k _ (by simp [ML.all])).trans h.oj
  ol := (k _ (by simp [ML.all])).trans h.ol
  gu := fun d hd => (h.gu d hd).keep fun b hb => k b (ML.in_g hd hb)
  nd := h.nd
/-- what is tracked stays: heaps that only grow keep a memory -/
theorem MemAt.same {Cm Cg : Addr} {L : ML} {H H' : Hp} {M : MS} (h : MemAt Cm Cg L H M) (s : Same H H') : MemAt Cm Cg L H' M where
  om := s _ _ h.om
  od := s _ _ h.od
  og := s _ _ h.og
  oc := s _ _ h.oc
  ob := s _ _ h.ob
  obl := fun d hd => s _ _ (h.obl d hd)
  oj := s _ _ h.oj
  ol := s _ _ h.ol
  gu := fun d hd => ⟨s _ _ (h.gu d hd).og, s _ _ (h.gu d hd).od, s _ _ (h.gu d hd).oe, s _ _ (h.gu d hd).oq⟩
  nd := h.nd
theorem Same.new {H H' : Hp} {p : Addr} {o : HO} (s : Same H H') (h : H p = none) : Same H (upd H' p o) := fun b u e => by
  rw [upd_ne (ne_of_none e h)]
  exact s b u e
theorem free_upd {H : Hp} {p a : Addr} {o : HO} (h : upd H p o a = none) : a ≠ p ∧ H a = none := by
  by_cases e : a = p
  · rw [e, upd_same] at h
    cases h
  · rw [upd_ne e] at h
    exact ⟨e, h⟩

/-! ### addresses apart, all of them tracked -/
structure Trk (H : Hp) (S : List Addr) : Prop where
  nd : S.Nodup
  tr : ∀ a ∈ S, H a ≠ none
theorem Trk.not {H : Hp} {S : List Addr} {p : Addr} (t : Trk H S) (h : H p = none) : p ∉ S := fun m => t.tr p m h
theorem Trk.dom {H H' : Hp} {S : List Addr} (t : Trk H S) (k : ∀ a ∈ S, H a ≠ none → H' a ≠ none) : Trk H' S := ⟨t.nd, fun a m => k a m (t.tr a m)⟩
theorem dom_upd {H : Hp} {p a : Addr} {o : HO} (h : H a ≠ none) : upd H p o a ≠ none := by
  by_cases e : a = p
  · rw [e, upd_same]
    intro z
    cases z
  · rw [upd_ne e]
    exact h
theorem Trk.upd {H : Hp} {S : List Addr} {p : Addr} {o : HO} (t : Trk H S) : Trk (upd H p o) S := t.dom fun _ _ h => dom_upd h
theorem Trk.same {H H' : Hp} {S : List Addr} (t : Trk H S) (s : Same H H') : Trk H' S := t.dom fun a _ h => by
  cases q : H a with
  | none => exact absurd q h
  | some o =>
    rw [s a o q]
    intro z
    cases z
theorem Trk.add {H H' : Hp} {S : List Addr} {p : Addr} (t : Trk H S) (h : H p = none) (h' : H' p ≠ none) (k : ∀ a ∈ S, H a ≠ none → H' a ≠ none) : Trk H' (S ++ [p]) where
  nd := by
    rw [List.nodup_append]
    refine ⟨t.nd, by simp, fun a ha b hb e => ?_⟩
    rw [List.mem_singleton] at hb
    rw [e, hb] at ha
    exact t.not h ha
  tr := fun a ha => by
    rcases List.mem_append.mp ha with q | q
    · exact k a q (t.tr a q)
    · rw [List.mem_singleton] at q
      rw [q]
      exact h'
theorem Trk.new {H : Hp} {S : List Addr} {p : Addr} {o : HO} (t : Trk H S) (h : H p = none) : Trk (L2.upd H p o) (S ++ [p]) :=
  t.add h (by rw [upd_same]; intro z; cases z) fun a _ q => dom_upd q

theorem Trk.adds {H H' : Hp} {S ps : List Addr} (t : Trk H S) (hn : ps.Nodup) (h : ∀ p ∈ ps, H p = none) (h' : ∀ p ∈ ps, H' p ≠ none) (k : ∀ a ∈ S, H a ≠ none → H' a ≠ none) : Trk H' (S ++ ps) where
  nd := by
    rw [List.nodup_append]
    exact ⟨t.nd, hn, fun a ha b hb e => t.not (h b hb) (e ▸ ha)⟩
  tr := fun a ha => by
    rcases List.mem_append.mp ha with q | q
    · exact k a q (t.tr a q)
    · exact h' a q
theorem some_ne {o : HO} {x : Option HO} (h : x = some o) : x ≠ none := by
  rw [h]
  intro z
  cases z
theorem Trk.ne {H : Hp} {S : List Addr} {a b : Addr} {R : List Addr} (t : Trk H S) (e : S = R ++ [b]) (h : a ∈ R) : a ≠ b := by
  have n := t.nd
  rw [e, List.nodup_append] at n
  exact n.2.2 a h b (by simp)
/-- none of the addresses was tracked at first -/
theorem back {H H' : Hp} {a : Addr} (s : Same H H') (h : H' a = none) : H a = none := s.free h
end Rb
/-! Rules that the hand layer lacks: match on a tuple whose first part is a word. -/
namespace Rb
open PySem PySem.Spec PyProof.Rows L2

/-- a pattern: what it makes of a value (none: it does not match), the names by their slots -/
abbrev TPt := V → Hp → Option (List (Nat × V)) → Prop
abbrev TPs := List V → Hp → Option (List (Nat × V)) → Prop
def BindR (X : Cx) (p : Nat × V) (q : Str × Value) : Prop :=
  X.N[p.1]? = some q.1 ∧ Loc X.env.scope q.1 ∧ (X.fn q.1 = true ∨ X.env.scope.names.lookup q.1 = some .local) ∧ RelV p.2 q.2
def BindO (X : Cx) : Option (List (Nat × V)) → Option (List (Str × Value)) → Prop
  | none, none => True
  | some bs, some ns => Paired (BindR X) bs ns
  | _, _ => False
structure PPt (X : Cx) (p : Pattern) (t : TPt) : Prop where
  run : ∀ (pins : List (Addr × Obj)) (s : Shared) (σ : L2.St) (H : Hp) (v : V) (u : Value) (r : Option (List (Nat × V))), Inv X pins σ H s → RelV v u → t v H r →
    wpAny (model X.prog X.w) X.A (matchPattern p X.env u) (fun r' s' => Inv X pins σ H s' ∧ BindO X r r') X.xe s
structure PPs (X : Cx) (ps : List Pattern) (t : TPs) : Prop where
  run : ∀ (pins : List (Addr × Obj)) (s : Shared) (σ : L2.St) (H : Hp) (vs : List V) (us : List Value) (r : Option (List (Nat × V))), Inv X pins σ H s → Vals vs us → t vs H r →
    wpAny (model X.prog X.w) X.A (matchEach ps X.env us) (fun r' s' => Inv X pins σ H s' ∧ BindO X r r') X.xe s
theorem paired_app {α β : Type} {R : α → β → Prop} : ∀ {xs ys : List α} {us ws : List β}, Paired R xs us → Paired R ys ws → Paired R (xs ++ ys) (us ++ ws)
  | _, _, _, _, .nil, s => s
  | _, _, _, _, .cons r t, s => .cons r (paired_app t s)
section
variable {X : Cx} {pos : Pos}
/-- a written word -/
def mWord (x : Str) : TPt := fun v _ r => ∃ y, v = .str y ∧ r = if y == x then some [] else none
theorem pm_word {x : Str} {k p2} : PPt X (.MatchValue (.Constant (.str x) k p2) pos) (mWord x) := by
  refine ⟨fun pins s σ H v u r I rv h => ?_⟩
  obtain ⟨y, e1, e2⟩ := h
  subst e1
  obtain ⟨t, rfl⟩ := rv
  refine wpAny_matchPattern_Value (Calls.Constant_str ?_)
  refine PyProof.Rows.eq_str ?_
  refine wpAny_truthy_bool ?_
  have I2 := I.tok (s.toks + 1)
  subst e2
  cases y == x with
  | true =>
    rw [if_pos rfl]
    exact ⟨I2, Paired.nil⟩
  | false =>
    rw [if_neg Bool.false_ne_true]
    exact ⟨I2, trivial⟩
/-- a name -/
def mName (i : Nat) : TPt := fun v _ r => r = some [(i, v)]
theorem pm_name {i : Nat} {x : Str} (hi : X.N[i]? = some x) (hx : Loc X.env.scope x) (hf : X.fn x = true ∨ X.env.scope.names.lookup x = some .local := by first | exact .inl rfl | exact .inr rfl | assumption) :
    PPt X (.MatchAs none (some x) pos) (mName i) := by
  refine ⟨fun pins s σ H v u r I rv h => ?_⟩
  subst h
  exact wpAny_matchPattern_Capture ⟨I, .cons ⟨hi, hx, hf, rv⟩ .nil⟩
/-- _ -/
def mAny : TPt := fun _ _ r => r = some []
theorem pm_any : PPt X (.MatchAs none none pos) mAny := by
  refine ⟨fun pins s σ H v u r I rv h => ?_⟩
  subst h
  exact wpAny_matchPattern_Capture ⟨I, .nil⟩
def mNil : TPs := fun vs _ r => vs = [] ∧ r = some []
def mCons (t : TPt) (u : TPs) : TPs := fun vs H r => ∃ v w, vs = v :: w ∧ ((t v H none ∧ r = none) ∨ ∃ bs r2, t v H (some bs) ∧ u w H r2 ∧ r = r2.map (bs ++ ·))
theorem pms_nil : PPs X [] mNil := by
  refine ⟨fun pins s σ H vs us r I rv h => ?_⟩
  obtain ⟨e, e2⟩ := h
  subst e e2
  exact wpAny_matchEach_nil ⟨I, .nil⟩
theorem pms_cons {p : Pattern} {ps : List Pattern} {t : TPt} {u : TPs} (h1 : PPt X p t) (h2 : PPs X ps u) (hp : p.isStar = false := by rfl) : PPs X (p :: ps) (mCons t u) := by
  refine ⟨fun pins s σ H vs us r I rv h => ?_⟩
  obtain ⟨v, w, e, h⟩ := h
  subst e
  cases rv with
  | cons r1 rr =>
    refine wpAny_matchEach_cons ?_ hp
    rcases h with ⟨h, e⟩ | ⟨bs, r2, ha, hb, e⟩
    · subst e
      refine thn (h1.run pins s σ H _ _ _ I r1 h) fun r' s1 ⟨I1, b⟩ => ?_
      cases r' with
      | none => exact ⟨I1, trivial⟩
      | some _ => exact b.elim
    · subst e
      refine thn (h1.run pins s σ H _ _ _ I r1 ha) fun r' s1 ⟨I1, b⟩ => ?_
      cases r' with
      | none => exact b.elim
      | some bs' =>
        refine thn (h2.run pins s1 σ H _ _ _ I1 rr hb) fun r'' s2 ⟨I2, b2⟩ => ?_
        cases r2 with
        | none =>
          cases r'' with
          | none => exact ⟨I2, trivial⟩
          | some _ => exact b2.elim
        | some q =>
          cases r'' with
          | none => exact b2.elim
          | some q' => exact ⟨I2, paired_app b b2⟩
/-- a tuple of so many parts -/
def mSeq (K : PySem.W.Frag) (n : Nat) (t : TPs) : TPt := fun v H r => ∃ a xs, v = .ref a ∧ SqT K H a xs ∧ ((xs.length ≠ n ∧ r = none) ∨ (xs.length = n ∧ t xs H r))
theorem pm_seq {ps : List Pattern} {n : Nat} {t : TPs} (hc : X.calm = true) (h : PPs X ps t) (hn : ps.length = n := by rfl)
    (hstar : ps.findIdx? (·.isStar) = none := by rfl) (hwild : (ps.all fun p => p.isWildcard || (p.isStar && p.names.isEmpty)) = false := by rfl) : PPt X (.MatchSequence ps pos) (mSeq X.K n t) := by
  refine ⟨fun pins s σ H v u r I rv hw => ?_⟩
  obtain ⟨a, xs, e1, hq, hw⟩ := hw
  subst e1 hn
  cases rv
  obtain ⟨its, rv, ht, hz⟩ := I.tuple hq
  have el := rv.length
  have hf : ((its.toArray.size : Nat) : Int) < 2 ^ 63 := by
    rw [sizeLine_eq] at hz
    simp only [List.size_toArray]
    omega
  rcases hw with ⟨hl, e⟩ | ⟨hl, hw⟩
  · subst e
    exact matchSeq_tuple_miss ht hf (by simp only [List.size_toArray]; omega) ⟨I.tok _, trivial⟩ hstar hwild
  · refine matchSeq_tuple_hit ht hf (by simp only [List.size_toArray]; omega) ?_ hstar hwild
    have e2 : ps.length = its.toArray.size := by simp only [List.size_toArray]; omega
    rw [e2]
    refine unpackItems_tuple (I.ok.hd hc) ht fun h' hx => ?_
    have I1 : Inv X pins σ H { s with heap := h', toks := s.toks + 1 + 1 } := I.kept (t' := s.toks + 1 + 1) fun b o e => hx b o (Nat.ne_of_lt (Heap.lt_size e)) e
    exact h.run pins _ σ H xs _ r I1 (by simpa using rv) hw

/-! ### the cases -/
abbrev TMs := V → TS
def setAll : L2.St → List (Nat × V) → L2.St
  | σ, [] => σ
  | σ, p :: ps => setAll (σ.set p.1 (some p.2)) ps
structure PMs (X : Cx) (cs : List MatchCase) (t : TMs) : Prop where
  run : ∀ (first : Bool) (pins : List (Addr × Obj)) (s : Shared) (σ : L2.St) (H : Hp) (D : Ends) (v : V) (u : Value), Inv X pins σ H s → RelV v u → t v D σ H →
    wpAny (model X.prog X.w) X.A (matchCases cs X.env u first) (SP X pins D) X.xe s
def cNil : TMs := fun _ D σ H => D.nx σ H
/-- a case, then the rest -/
def cCons (t : TPt) (b : TS) (rest : TMs) : TMs := fun v D σ H => (t v H none ∧ rest v D σ H) ∨ ∃ bs, t v H (some bs) ∧ b D (setAll σ bs) H
theorem pc_nil : PMs X [] cNil := ⟨fun _ _ _ σ H _ _ _ I _ h => wpAny_matchCases_nil ⟨σ, H, I, h⟩⟩
theorem binds_all (hN : X.N.Nodup) {Q : Unit → Shared → Prop} {pins : List (Addr × Obj)} {H : Hp} : ∀ {bs : List (Nat × V)} {ns : List (Str × Value)} {σ : L2.St} {s : Shared}, Paired (BindR X) bs ns → Inv X pins σ H s →
    (∀ s', Inv X pins (setAll σ bs) H s' → Q () s') → wpAny (model X.prog X.w) X.A (assignInOrder (ns.map fun x => match x with | (n, _) => bindName X.env n) (ns.map (·.2))) Q X.xe s
  | _, _, _, _, .nil, I, h => assignInOrder_nil (h _ I)
  | _, _, _, _, .cons r t, I, h => by
    obtain ⟨hi, hx, hf, rv⟩ := r
    exact assignInOrder_cons (wpAny_bindName (store_ok I hN hi hx rv (fun s1 I1 => binds_all hN t I1 h) hf))
theorem pc_cons {p : Pattern} {body : List Stmt} {rest : List MatchCase} {t : TPt} {b : TS} {u : TMs} (hN : X.N.Nodup) (hp : PPt X p t) (hb : PSs X body b) (hr : PMs X rest u) :
    PMs X (⟨p, none, body⟩ :: rest) (cCons t b u) := by
  refine ⟨fun first pins s σ H D v w I rv h => ?_⟩
  refine wpAny_matchCases_cons ?_
  rcases h with ⟨h1, h2⟩ | ⟨bs, h1, h2⟩
  · refine thn (hp.run pins s σ H _ _ _ I rv h1) fun r' s1 ⟨I1, q⟩ => ?_
    cases r' with
    | none => exact hr.run false pins s1 σ H D v w I1 rv h2
    | some _ => exact q.elim
  · refine thn (hp.run pins s σ H _ _ _ I rv h1) fun r' s1 ⟨I1, q⟩ => ?_
    cases r' with
    | none => exact q.elim
    | some ns => exact binds_all hN q I1 fun s2 I2 => hb.run pins s2 _ H D I2 h2
def tMatch (te : TE) (tc : TMs) : TS := fun D σ H => te σ H fun v H1 => tc v D σ H1
theorem ps_match {e : Expr} {cs : List MatchCase} {te : TE} {tc : TMs} (he : PE X e te) (hc : PMs X cs tc) : PS X (.Match e cs pos) (tMatch te tc) := by
  refine ⟨fun pins s σ H D I h => ?_⟩
  exact wpAny_Match (thn (he.run pins s σ H _ I h) fun u s1 ⟨v, H1, I1, r1, q1⟩ => hc.run true pins s1 σ H1 D v u I1 r1 q1)
end
/-! ### readings: a word and its parts -/
section
variable {K : PySem.W.Frag} {H : Hp} {a : Addr} {x y : Str} {rest : List V} {n : Nat} {t : TPs} {b : TS} {u : TMs} {D : Ends} {σ : L2.St} {bs : List (Nat × V)}
theorem miss_word (h : SqT K H a (.str y :: rest)) (hy : (y == x) = false) (q : u (.ref a) D σ H) : cCons (mSeq K n (mCons (mWord x) t)) b u (.ref a) D σ H := by
  refine .inl ⟨⟨a, _, rfl, h, ?_⟩, q⟩
  by_cases e : (V.str y :: rest).length = n
  · exact .inr ⟨e, _, _, rfl, .inl ⟨⟨y, rfl, by rw [hy]; rfl⟩, rfl⟩⟩
  · exact .inl ⟨e, rfl⟩
theorem hit_word (h : SqT K H a (.str x :: rest)) (hn : (V.str x :: rest).length = n) (ht : t rest H (some bs)) (q : b D (setAll σ bs) H) : cCons (mSeq K n (mCons (mWord x) t)) b u (.ref a) D σ H := by
  refine .inr ⟨bs, ⟨a, _, rfl, h, .inr ⟨hn, _, _, rfl, .inr ⟨[], some bs, ⟨x, rfl, ?_⟩, ht, rfl⟩⟩⟩, q⟩
  simp
theorem mn_nil : mNil [] H (some []) := ⟨rfl, rfl⟩
theorem mn_name {i : Nat} {v : V} {w : List V} (h : t w H (some bs)) : mCons (mName i) t (v :: w) H (some ((i, v) :: bs)) := ⟨_, _, rfl, .inr ⟨[(i, v)], _, rfl, h, rfl⟩⟩
theorem mn_any {v : V} {w : List V} (h : t w H (some bs)) : mCons mAny t (v :: w) H (some bs) := ⟨_, _, rfl, .inr ⟨[], _, rfl, h, rfl⟩⟩
end
end Rb
/-! a, .., *rest = a tuple: the rest becomes a new list. -/
namespace Rb
open PySem PySem.Spec PyProof.Rows L2
section
variable {prog : Program} {w : World} {A : Around} {E : Value → Shared → Prop} {s : Shared}
theorem rest_items {l : Addr} {its : Array Value} {i : Nat} {Q : List Value → Shared → Prop} (hl : IsTup s.heap l its) (hh : A.handled = none) (hi : i ≤ its.size) (hz : its.size ≤ sizeLine)
    (h : ∀ (h1 : Heap) (tk : Nat), (∀ b o, s.heap.get? b = some o → h1.get? b = some o) →
      Q (its.toList.take i ++ [.ref h1.objs.size]) { s with heap := h1.push { cls := .type "list", data := .seq (its.toList.drop i).toArray }, toks := tk }) :
    wpAny (model prog w) A (unpackItems (.ref l) (i + 1) (some i)) Q E s := by
  have ll : l < s.heap.objs.size := by
    obtain ⟨o, ho, _⟩ := hl
    exact Heap.lt_size ho
  have ne : l ≠ s.heap.objs.size := Nat.ne_of_lt ll
  unfold unpackItems
  refine wpAny_bind ?_
  unfold notIterableAtAll
  refine wpAny_bind (wpAny_specialOf hl.typeIs slot_tuple_iter.lookup (wpAny_pure ?_))
  simp only [Bool.false_eq_true, if_false]
  refine wpAny_bind (wpAny_holding (iter_tuple hl ?_))
  refine wpAny_bind (wpAny_holding (draw_tuple ne i 0 _ _ ⟨_, Heap.get?_push_size _ rfl, rfl, rfl⟩ (hl.push _) (by omega) fun h1 t1 k1 => ?_))
  rw [Nat.zero_add] at t1
  have l1 : IsTup h1 l its := (hl.push _).extBut k1.extBut ne
  have z1 : s.heap.objs.size < h1.objs.size := by
    obtain ⟨o, ho, _⟩ := id t1
    exact Heap.lt_size ho
  have zl : l < h1.objs.size := Nat.lt_trans ll z1
  rw [List.drop_zero, if_neg (by rw [List.length_take, Array.length_toList]; omega)]
  refine wpAny_bind (wpAny_holding (PySem.W.kun_collect (s := { s with heap := h1 }) (T := "tuple_iterator") (.inr (.inr (.inr rfl))) (Walks.tuple (A := A.in1) hh s.heap.objs.size l ne its) (fun j u st => st.1.typeIs) hi ⟨t1, l1⟩ z1 zl (fun h2 tk k2 => ?_) hz))
  have e0 : i + 1 - 1 - i = 0 := by omega
  rw [e0, if_neg (Nat.not_lt_zero _), Nat.sub_zero, List.take_length, List.drop_length]
  refine wpAny_bind (wpAny_newList (wpAny_pure ?_) (by rw [List.length_drop, Array.length_toList]; omega))
  rw [List.append_nil]
  exact h h2 tk fun b o e => k2 b o (Nat.ne_of_lt (Heap.lt_size e)) (k1.extBut b o (Nat.ne_of_lt (Heap.lt_size e)) (Heap.get?_push_of_some _ e))
end
section
variable {X : Cx} {pos : Pos}
/-- a, .., *rest = a tuple; n names before the rest -/
def gStar (K : PySem.W.Frag) (n : Nat) (t : TGs) : TG := fun v σ H Q => ∃ a xs, v = .ref a ∧ SqT K H a xs ∧ n ≤ xs.length ∧ ∀ d, H d = none → t (xs.take n ++ [.ref d]) σ (upd H d (.lst (xs.drop n))) Q
theorem pg_star {es es' : List Expr} {k n : Nat} {t : TGs} (hc : X.calm = true) (h : PGs X es' t)
    (hn : (assignEach es X.env).length = n + 1 := by rfl) (hst : (assignEach es X.env).findIdx? (·.1) = some n := by rfl)
    (hm : (assignEach es X.env).map (·.2) = (assignEach es' X.env).map (·.2) := by rfl) : PG X (.Tuple es k pos) (gStar X.K n t) := by
  refine ⟨fun pins s σ H v u Q I r hw => ?_⟩
  obtain ⟨a, xs, e1, hq, hl, hw⟩ := hw
  subst e1
  cases r
  obtain ⟨its, rv, ht, hz⟩ := I.tuple hq
  have el := rv.length
  rw [assign_Tuple]
  refine wpAny_bind (wpAny_standAt ?_)
  unfold unpack
  rw [hn, hst]
  refine wpAny_bind (wpAny_holding (rest_items ht (I.ok.hd hc) (by simp only [List.size_toArray]; omega) (by simp only [List.size_toArray]; omega) fun h1 tk kk => ?_))
  have I1 : Inv X pins σ H { s with heap := h1, toks := tk } := I.kept (t' := tk) kk
  have hd : H h1.objs.size = none := I1.hok.fresh (Nat.le_refl _)
  have I2 : Inv X pins σ (upd H h1.objs.size (.lst (xs.drop n))) { s with heap := h1.push { cls := .type "list", data := .seq (its.drop n).toArray }, toks := tk } :=
    I1.laid (t' := tk) (fun b o e => Heap.get?_push_of_some _ e) (Nat.le_refl _) ⟨by rw [List.length_drop]; omega, _, 0, Vals.drop n rv, Heap.get?_push_size _ rfl⟩
  rw [hm]
  exact h.run pins _ σ _ _ _ Q I2 (Vals.append (Vals.take n rv) (.cons (show L2.RelV (.ref h1.objs.size) (Value.ref h1.objs.size) from rfl) .nil)) (hw _ hd)
end
end Rb
/-! zip of a tuple and a list. -/
namespace Rb
open PySem PySem.Spec PyProof.Rows L2

/-- the tuple at a and the list at b as they stand at each turn, the items in new pairs -/
def ItzM (K : PySem.W.Frag) (a b : Addr) : It :=
  ⟨fun i H => ∃ (xs ys : List V) (x y : V), SqT K H a xs ∧ SqL K H b ys ∧ xs[i]? = some x ∧ ys[i]? = some y,
    fun i H v H' => ∃ T x y, v = .ref T ∧ H T = none ∧ H' = upd H T (.tup [x, y]) ∧ (∀ xs, SqT K H a xs → xs[i]? = some x) ∧ ∀ ys, SqL K H b ys → ys[i]? = some y,
    fun i H => ∃ xs ys : List V, SqT K H a xs ∧ SqL K H b ys ∧ i ≤ xs.length ∧ i ≤ ys.length ∧ (i = xs.length ∨ i = ys.length)⟩
theorem zip_sep {z TI TO i1 i2 a b : Addr} (D : ZipApart z TI TO i1 i2 a b) : ZipSep2 z TI TO i1 i2 [i1, a] [i2, b] where
  TIz := D.TIz
  TOz := D.TOz
  TITO := D.TITO
  TIi1 := D.TIi1
  mem1 := by simp
  zf1 := by simp [D.i1z.symm, D.l1z.symm]
  Tf1 := by simp [D.TOi1, D.l1TO.symm]
  TIi2 := D.TIi2
  mem2 := by simp
  zf2 := by simp [D.i2z.symm, D.l2z.symm]
  Tf2 := by simp [D.TOi2, D.l2TO.symm]
  sep1_2 := by simp [D.i12, D.l2i1.symm]
  sep2_1 := by simp [D.i12.symm, D.l1i2.symm]
def tnM (z TI TO i1 i2 a b : Addr) (i : Nat) (h : Heap) : Prop :=
  IsZip h z TI TO .none ∧ IsPair h TI (.ref i1) (.ref i2) ∧ (∃ x y, IsPair h TO x y) ∧ h.IsTupleIter i1 a i ∧ h.IsListIter i2 b i
theorem turn_zipM {P : Program} {w : World} {K : PySem.W.Frag} {elts : List Expr} {kk : Nat} {tpos : Pos} {a b z TI TO i1 i2 : Addr} (D : ZipApart z TI TO i1 i2 a b) :
    Turn P w K (.Tuple elts kk tpos) (ItzM K a b) [z, TI, TO, i1, i2] z (tnM z TI TO i1 i2 a b) where
  mem := by simp
  obj := fun i h st c hc => by
    obtain ⟨hz, hTI, ⟨x, y, hTO⟩, ⟨o1, e1, _, d1⟩, ⟨o2, e2, _, d2⟩⟩ := st
    simp only [List.mem_cons, List.not_mem_nil, or_false] at hc
    rcases hc with rfl | rfl | rfl | rfl | rfl
    · exact ⟨_, hz, fun v q => nomatch q⟩
    · exact ⟨_, hTI, fun v q => nomatch q⟩
    · exact ⟨_, hTO, fun v q => nomatch q⟩
    · exact ⟨o1, e1, fun v q => by rw [d1] at q; cases q⟩
    · exact ⟨o2, e2, fun v q => by rw [d2] at q; cases q⟩
  keep := fun i h h' st k => by
    obtain ⟨hz, hTI, ⟨x, y, hTO⟩, h1, h2⟩ := st
    exact ⟨k z (by simp) _ hz, k TI (by simp) _ hTI, ⟨x, y, k TO (by simp) _ hTO⟩, h1.at fun o q => k i1 (by simp) o q, h2.at fun o q => k i2 (by simp) o q⟩
  item := by
    intro X hP hw hK hc i pins s σ H E I hf st hg
    subst hP hw hK
    obtain ⟨hz, hTI, ⟨x0, y0, hTO⟩, h1, h2⟩ := st
    obtain ⟨xs, ys, x, y, qx, qy, hx, hy⟩ := hg
    obtain ⟨its, rv, p, _⟩ := I.tuple qx
    obtain ⟨its2, rv2, p2, _⟩ := I.list qy
    obtain ⟨u, hu, ru⟩ := rv.get hx
    obtain ⟨u2, hu2, ru2⟩ := rv2.get hy
    have S := zip_sep D
    have hzl : z < s.heap.objs.size := Heap.lt_size hz
    have D1 : Draws X.prog X.w X.A.in1 i1 [i1, a] its.toArray.size (fun i v => its.toArray[i]? = some v) (fun i h => h.IsTupleIter i1 a i ∧ h.IsTuple a its.toArray) := Draws.tuple (A := X.A.in1) (I.ok.hd hc) i1 a D.l1i1 its.toArray
    have D2 : Draws X.prog X.w X.A.in1 i2 [i2, b] its2.toArray.size (fun i v => its2.toArray[i]? = some v) (fun i h => h.IsListIter i2 b i ∧ h.IsList b its2.toArray) := Draws.list (A := X.A.in1) (I.ok.hd hc) i2 b D.l2i2 its2.toArray
    have l1 : i < its.toArray.size := by
      have := (List.getElem?_eq_some_iff.mp hu).1
      simpa using this
    have l2 : i < its2.toArray.size := by
      have := (List.getElem?_eq_some_iff.mp hu2).1
      simpa using this
    refine wpAny_pyNext_zipD2_item S D1 D2 hz hTI hTO ⟨h1, p⟩ ⟨h2, p2.isList⟩ l1 l2 fun v1 v2 h' tk w1 w2 z' TO' st1' st2' hT hsz hk => ?_
    have e1 : v1 = u := by
      simp only [List.getElem?_toArray, hu] at w1
      exact (Option.some.inj w1).symm
    have e2 : v2 = u2 := by
      simp only [List.getElem?_toArray, hu2] at w2
      exact (Option.some.inj w2).symm
    subst e1 e2
    refine ⟨_, rfl, wpAny_letOwnedTupleGo_zip (s := { s with heap := h', toks := tk }) z' fun h'' z'' sb => ?_⟩
    have hT2 : h''.get? s.heap.objs.size = some { cls := .type "tuple", data := .seq #[v1, v2] } := (sb.2 _ (Nat.ne_of_gt hzl)).trans hT
    have new : ObjOk X.prog X.w (upd H s.heap.objs.size (.tup [x, y])) h'' s.heap.objs.size (.tup [x, y]) :=
      ⟨by show 2 ≤ sizeLine; decide, [v1, v2], .cons ru (.cons ru2 .nil), ⟨_, hT2, rfl, _, rfl⟩⟩
    have I1 : Inv X pins σ (upd H s.heap.objs.size (.tup [x, y])) { s with heap := h'', toks := tk } :=
      I.turnedNew (t' := tk) (ch := [z, TI, TO, i1, i2]) (fun c o hb q => (sb.2 c (fun q' => hb (by simp [q']))).trans (hk c o (fun q' => hb (by simp [q'])) (fun q' => hb (by simp [q'])) (fun q' => hb (by simp [q'])) (fun q' => hb (by simp [q'])) q)) hf (Nat.le_refl _) new
    refine ⟨.ref s.heap.objs.size, _, I1, rfl, ⟨_, x, y, rfl, I.hok.fresh (Nat.le_refl _), rfl, fun l hl => by rw [I.tuple_inj hl qx]; exact hx, fun l hl => by rw [I.list_inj hl qy]; exact hy⟩, ⟨z'', ?_, ⟨v1, v2, ?_⟩, ?_, ?_⟩, fun c hcm => ?_⟩
    · exact (sb.2 _ D.TIz).trans (hk _ _ D.TIz D.TITO D.TIi1 D.TIi2 hTI)
    · exact (sb.2 _ D.TOz).trans TO'
    · exact st1'.1.at fun o q => (sb.2 _ D.i1z).trans q
    · exact st2'.1.at fun o q => (sb.2 _ D.i2z).trans q
    · have hlt : c < s.heap.objs.size := by
        simp only [List.mem_cons, List.not_mem_nil, or_false] at hcm
        rcases hcm with rfl | rfl | rfl | rfl | rfl
        · exact hzl
        · exact Heap.lt_size hTI
        · exact Heap.lt_size hTO
        · obtain ⟨_, e1, _⟩ := h1
          exact Heap.lt_size e1
        · obtain ⟨_, e2, _⟩ := h2
          exact Heap.lt_size e2
      rw [upd_ne (Nat.ne_of_lt hlt)]
      exact (hf c hcm).1
  done := by
    intro X hP hw hK hc i pins s σ H E I hf st hg
    subst hP hw hK
    obtain ⟨hz, hTI, ⟨x0, y0, hTO⟩, h1, h2⟩ := st
    obtain ⟨xs, ys, qx, qy, g1, g2, hend⟩ := hg
    obtain ⟨its, rv, p, _⟩ := I.tuple qx
    obtain ⟨its2, rv2, p2, _⟩ := I.list qy
    have l1 := rv.length
    have l2 := rv2.length
    have S := zip_sep D
    have D1 : Draws X.prog X.w X.A.in1 i1 [i1, a] its.toArray.size (fun i v => its.toArray[i]? = some v) (fun i h => h.IsTupleIter i1 a i ∧ h.IsTuple a its.toArray) := Draws.tuple (A := X.A.in1) (I.ok.hd hc) i1 a D.l1i1 its.toArray
    have D2 : Draws X.prog X.w X.A.in1 i2 [i2, b] its2.toArray.size (fun i v => its2.toArray[i]? = some v) (fun i h => h.IsListIter i2 b i ∧ h.IsList b its2.toArray) := Draws.list (A := X.A.in1) (I.ok.hd hc) i2 b D.l2i2 its2.toArray
    refine wpAny_pyNext_zipD2_end S D1 D2 hz hTI hTO ⟨h1, p⟩ ⟨h2, p2.isList⟩ (by simp only [List.size_toArray]; omega) (by simp only [List.size_toArray]; omega) (by simp only [List.size_toArray]; omega) fun h' tk hk => ⟨rfl, ?_⟩
    exact I.turnedL (t' := tk) (ch := [z, TI, TO, i1, i2]) (fun c o hb q => hk c o (fun q' => hb (by simp [q'])) (fun q' => hb (by simp [q'])) (fun q' => hb (by simp [q'])) (fun q' => hb (by simp [q'])) q) hf
  self := fun A i s Q E st h => wpAny_pyIter_zip st.1 h

def iZipM (K : PySem.W.Frag) (ta : TA) : TI := fun σ H R => ta σ H fun vs H1 => ∃ a b xs ys, vs = [.ref a, .ref b] ∧ SqT K H1 a xs ∧ SqL K H1 b ys ∧ R (ItzM K a b) H1
theorem pi_zipM {X : Cx} {e e2 : Expr} {ta : TA} {p pos tpos : Pos} {elts : List Expr} {kk : Nat} (hg : Gl X "zip") (hm : X.mg "zip" = none) (ha : PA X [e, e2] ta)
    (hs : starEach [e, e2] X.env = (false, eval e X.env) :: starEach [e2] X.env := by rfl) (hpl : (backTo pos (starEach [e2] X.env)).any (·.1) = false := by rfl) :
    PI X (.Tuple elts kk tpos) (.Call (.Name "zip" p) [e, e2] [] pos) (iZipM X.K ta) := by
  refine ⟨fun pins s σ H R I h => ?_⟩
  refine Call_ (ld_blt I hg hm PyProof.Rows.boot_zip (PyProof.Rows.callWith_type1 (thn (ha.run pos pins s σ H _ I h) fun us s1 ⟨vs, H1, I1, r1, q1⟩ => ?_) hs hpl))
  obtain ⟨a, b, xs, ys, ex, qx, qy, q⟩ := q1
  subst ex
  cases r1 with
  | cons r rr =>
    cases rr with
    | cons r' rr =>
      cases rr
      cases r
      cases r'
      obtain ⟨its, rv, p1, _⟩ := I1.tuple qx
      obtain ⟨its2, rv2, p2, _⟩ := I1.list qy
      have lo : a < s1.heap.objs.size := by
        obtain ⟨o1, ho1, _⟩ := id p1
        exact Heap.lt_size ho1
      refine zip_begins2 (begins_tuple a its.toArray) (begins_list b its2.toArray) p1 p2.isList fun h' hz hTI hTO g1 g2 hsz hk => wpAny_pyIter_zip hz ?_
      have I2 : Inv X pins σ H1 { s1 with heap := h' } := I1.kept (t' := s1.toks) hk
      refine ⟨s1.heap.objs.size + 4, [s1.heap.objs.size + 4, s1.heap.objs.size + 2, s1.heap.objs.size + 3, s1.heap.objs.size, s1.heap.objs.size + 1], _, _, H1, rfl, I2, turn_zipM (PySem.W.ktu_apart s1.heap.objs.size a b lo p2.lt), ⟨hz, hTI, ⟨_, _, hTO⟩, ⟨_, g1, rfl, rfl⟩, ⟨_, g2, rfl, rfl⟩⟩, fun c hcm => ?_, q⟩
      have hle : s1.heap.objs.size ≤ c := by
        simp only [List.mem_cons, List.not_mem_nil, or_false] at hcm
        rcases hcm with rfl | rfl | rfl | rfl | rfl
        · exact Nat.le_add_right _ _
        · exact Nat.le_add_right _ _
        · exact Nat.le_add_right _ _
        · exact Nat.le_refl _
        · exact Nat.le_add_right _ _
      exact I1.fpOk hle (I1.hok.fresh hle)
/-- (a, b, ..) = a tuple, the written part by name (within a comprehension's block) -/
theorem pg_tupK {X : Cx} {K : PySem.W.Frag} {pos : Pos} {es : List Expr} {k : Nat} {t : TGs} {n : Nat} (hK : X.K = K) (hc : X.calm = true) (h : PGs X es t)
    (hn : (assignEach es X.env).length = n := by rfl) (hst : (assignEach es X.env).findIdx? (·.1) = none := by rfl) : PG X (.Tuple es k pos) (gTup K n t) := by
  subst hK
  exact pg_tup hc h hn hst
/-- a comprehension over a tuple and a list of one length -/
theorem lc_zipM {K : PySem.W.Frag} {a b : Addr} {xs ys : List V} {g : TG} {tt : TT} {te : TE} {vs : List Nat} {σ : L2.St} {H1 : Hp} {D : Addr} {Qd : Hp → Prop} (hl : xs.length = ys.length) (Pv : Nat → Hp → Prop) (h0 : Pv 0 (upd H1 D (.lst [])))
    (hq : ∀ i H, Pv i H → SqT K H a xs ∧ SqL K H b ys)
    (hs : ∀ i x y T H, xs[i]? = some x → ys[i]? = some y → Pv i H → H T = none → g (.ref T) (wipe σ vs) (upd H T (.tup [x, y])) fun σ2 H2 => wipe σ2 vs = wipe σ vs ∧ tt σ2 H2 fun b H3 =>
      if b = true then te σ2 H3 fun y H4 => ∃ acc, H4 D = some (.lst acc) ∧ acc.length < sizeLine ∧ Pv (i + 1) (upd H4 D (.lst (acc ++ [y]))) else Pv (i + 1) H3) (hd : ∀ H, Pv xs.length H → Qd H) :
    ∃ W : Nat → Nat → Hp → Prop, (∃ m, W 0 m (upd H1 D (.lst []))) ∧ ∀ i m H, W i m H →
      ((ItzM K a b).stop i H ∧ Qd H) ∨ ((ItzM K a b).go i H ∧ ∃ Nx : Hp → Prop, (∀ H', Nx H' → ∃ m', m' < m ∧ W (i + 1) m' H') ∧ ∀ x H', (ItzM K a b).yld i H x H' → g x (wipe σ vs) H' fun σ2 H2 => wipe σ2 vs = wipe σ vs ∧ tt σ2 H2 fun b H3 =>
        if b = true then te σ2 H3 fun y H4 => ∃ acc, H4 D = some (.lst acc) ∧ acc.length < sizeLine ∧ Nx (upd H4 D (.lst (acc ++ [y]))) else Nx H3) := by
  refine ⟨fun i m H => m = xs.length - i ∧ i ≤ xs.length ∧ Pv i H, ⟨xs.length, by simp, Nat.zero_le _, h0⟩, ?_⟩
  rintro i m H ⟨rfl, hi, p⟩
  obtain ⟨qx, qy⟩ := hq i H p
  by_cases hlt : i < xs.length
  · have hx : xs[i]? = some xs[i] := List.getElem?_eq_getElem hlt
    have hlt2 : i < ys.length := by omega
    have hy : ys[i]? = some ys[i] := List.getElem?_eq_getElem hlt2
    refine .inr ⟨⟨xs, ys, _, _, qx, qy, hx, hy⟩, Pv (i + 1), fun H' p' => ⟨xs.length - (i + 1), by omega, rfl, hlt, p'⟩, fun x H' y => ?_⟩
    obtain ⟨T, x', y', rfl, hT, rfl, f1, f2⟩ := y
    exact hs i x' y' T H (f1 xs qx) (f2 ys qy) p hT
  · have e : i = xs.length := by omega
    subst e
    exact .inl ⟨⟨xs, ys, qx, qy, Nat.le_refl _, by omega, .inl rfl⟩, hd H p⟩
end Rb
/-! A written table of the module: a word's value is a pair of tuples of words. -/
namespace Rb
open PySem PySem.Spec PyProof.Rows L2
/-- the address of the value at a key -/
def adv (K : PySem.W.Frag) (d : Addr) (key : Str) : Addr := match PySem.W.nsIn K d key with
  | some (some (.ref a)) => a
  | _ => 0
/-- the address of an item of a tuple -/
def adi (K : PySem.W.Frag) (a : Addr) (i : Nat) : Addr := match K.lookup a with
  | some ⟨_, _, .seq its _, _⟩ => (match its[i]? with
    | some (.ref b) => b
    | _ => 0)
  | _ => 0
def tupAt (K : PySem.W.Frag) (a : Addr) (vs : List V) : Bool := match K.lookup a with
  | some ⟨.type c, _, .seq its _, _⟩ => decide (c = "tuple") && (decide (its.size ≤ sizeLine) && He.relAll vs its.toList)
  | _ => false
theorem tupAt_ok {K : PySem.W.Frag} {a : Addr} {vs : List V} (h : tupAt K a vs = true) (H : Hp) : SqT K H a vs := by
  unfold tupAt at h
  split at h
  · rename_i c dd its n sl q
    obtain ⟨h1, h2⟩ := and2 h
    obtain ⟨h3, h4⟩ := and2 h2
    exact .inr ⟨_, its, n, q, congrArg Value.type (of_decide_eq_true h1), rfl, of_decide_eq_true h3, He.relAll_ok h4⟩
  · cases h
def formB (x key : Str) (rs ks : List Str) (K : PySem.W.Frag) : Bool :=
  (match PySem.W.nsIn K (He.ga K x) key with
    | some (some u) => He.relB (.ref (adv K (He.ga K x) key)) u
    | _ => false) && (tupAt K (adv K (He.ga K x) key) [.ref (adi K (adv K (He.ga K x) key) 0), .ref (adi K (adv K (He.ga K x) key) 1)] &&
    (tupAt K (adi K (adv K (He.ga K x) key) 0) (rs.map .str) && tupAt K (adi K (adv K (He.ga K x) key) 1) (ks.map .str)))
/-- the table x has a row: the key's value is a pair of tuples of words -/
structure Form (K : PySem.W.Frag) (x key : Str) (rs ks : List Str) : Prop where
  val : ∃ u, PySem.W.nsIn K (He.ga K x) key = some (some u) ∧ RelV (.ref (adv K (He.ga K x) key)) u
  pair : ∀ H, SqT K H (adv K (He.ga K x) key) [.ref (adi K (adv K (He.ga K x) key) 0), .ref (adi K (adv K (He.ga K x) key) 1)]
  fst : ∀ H, SqT K H (adi K (adv K (He.ga K x) key) 0) (rs.map .str)
  snd : ∀ H, SqT K H (adi K (adv K (He.ga K x) key) 1) (ks.map .str)
theorem form_ok {K : PySem.W.Frag} {x key : Str} {rs ks : List Str} (h : (Ex.fact (formB x key rs ks)).ok K = true) : Form K x key rs ks := by
  obtain ⟨h1, h⟩ := and2 (show formB x key rs ks K = true from h)
  obtain ⟨h2, h⟩ := and2 h
  obtain ⟨h3, h4⟩ := and2 h
  refine ⟨?_, tupAt_ok h2, tupAt_ok h3, tupAt_ok h4⟩
  split at h1
  · rename_i u q
    exact ⟨u, q, He.relB_ok h1⟩
  · cases h1
section
variable {X : Cx}
/-- word not in the table, a word that it has -/
theorem op_notIn_form {x : Str} (D : ∃ es n, KDict X.K X.w (He.ga X.K x) es n) :
    OpR X (compareOp .NotIn) (fun a b H Q => ∃ key rs ks, a = .str key ∧ b = .ref (He.ga X.K x) ∧ Form X.K x key rs ks ∧ Q (.bl false) H) := by
  obtain ⟨es, n, D⟩ := D
  intro pins s σ H a b v u Q I ra rb h
  obtain ⟨key, rs, ks, rfl, rfl, F, q⟩ := h
  obtain ⟨u0, e, _⟩ := F.val
  exact op_notIn_kd D pins s σ H _ _ v u Q I ra rb ⟨key, _, rfl, rfl, e, q⟩
def rIxF (K : PySem.W.Frag) (x : Str) : R2 := fun a b H Q => ∃ key rs ks, a = .ref (He.ga K x) ∧ b = .str key ∧ Form K x key rs ks ∧ Q (.ref (adv K (He.ga K x) key)) H
theorem ix_form {x : Str} (D : ∃ es n, KDict X.K X.w (He.ga X.K x) es n) : IxR X (rIxF X.K x) := by
  obtain ⟨es, n, D⟩ := D
  intro value slice pins s σ H a b v u Q I ra rb h hs
  obtain ⟨key, rs, ks, rfl, rfl, F, q⟩ := h
  obtain ⟨u0, e, r⟩ := F.val
  exact ix_kdict value slice pins s σ H _ _ v u Q I ra rb ⟨_, key, _, rfl, rfl, ⟨es, n, u0, D.at_, D.lit, e, r⟩, q⟩ hs
end
end Rb
/-! A type among types; a tuple behind a list. -/
namespace Rb
open PySem PySem.Spec PyProof.Rows L2
/-- types whose own type is known here -/
def tyKnown (n : String) : Bool := n = "int" || (n = "str" || (n = "bool" || (n = "NoneType" || (n = "list" || (n = "tuple" || n = "dict")))))
theorem tyKnown_is {n : String} (h : tyKnown n = true) : ∀ s : Shared, s.TypeIs (.type n) "type" := by
  unfold tyKnown at h
  simp only [Bool.or_eq_true, decide_eq_true_eq] at h
  rcases h with h | h | h | h | h | h | h
  · subst h
    exact TypeEq.meta_int
  · subst h
    exact TypeEq.meta_str
  · subst h
    exact TypeEq.meta_bool
  · subst h
    exact TypeEq.meta_NoneType
  · subst h
    exact TypeEq.meta_list
  · subst h
    exact TypeEq.meta_tuple
  · subst h
    exact TypeEq.meta_dict
theorem eqAt_ty {A : Around} {s : Shared} {a b : String} (ha : tyKnown a = true) (hb : tyKnown b = true) : SeqAt.EqAt A s (.type a) (.type b) (decide (a = b)) := fun prog w E Q h => by
  by_cases e : a = b
  · subst e
    exact SeqAt.EqAt.same _ prog w E Q (by simpa using h)
  · have ne : (Value.type a == Value.type b) = false := beq_eq_false_iff_ne.mpr fun z => e (by injection z)
    rw [decide_eq_false e] at h
    unfold eqBool
    refine wpAny_holding ?_
    refine wpAny_ite_split (fun z => absurd z (by rw [ne]; simp)) (fun _ => ?_)
    exact wpAny_bind (show wpAny (model prog w) A (richCompare .Eq (.type a) (.type b)) _ E s from TypeEq.eq_type_other (tyKnown_is ha) (tyKnown_is hb) ne (wpAny_truthy_bool h))
def isTyU (a : String) (u : Value) : Bool := match u with
  | .type m => decide (m = a)
  | _ => false
theorem any_tys {a : String} : ∀ {ts : List String} {us : List Value}, Vals (ts.map V.ty) us → us.any (isTyU a) = ts.contains a
  | [], _, .nil => rfl
  | t :: ts, _, .cons r q => by
    cases r
    rw [List.any_cons, any_tys q, List.contains_cons]
    show (decide (t = a) || _) = _
    congr 1
    by_cases e : t = a
    · subst e
      simp
    · rw [decide_eq_false e]
      exact (beq_eq_false_iff_ne.mpr fun z => e z.symm).symm
theorem mem_tys {A : Around} {s : Shared} {a : String} (ha : tyKnown a = true) : ∀ {ts : List String} {us : List Value}, Vals (ts.map V.ty) us → ts.all tyKnown = true → ∀ u ∈ us, SeqAt.EqAt A s u (.type a) (isTyU a u)
  | [], _, .nil, _ => fun u hu => by cases hu
  | t :: ts, _, .cons r q, f => fun u hu => by
    rw [List.all_cons, Bool.and_eq_true] at f
    cases r
    rcases List.mem_cons.mp hu with rfl | hu
    · exact eqAt_ty f.1 ha
    · exact mem_tys ha q f.2 u hu
/-- a type in, or not in, a tuple of types -/
def rTyIn (K : PySem.W.Frag) (neg : Bool) : R2 := fun x y H Q => ∃ (a : String) (p : Addr) (ts : List String), x = .ty a ∧ y = .ref p ∧ SqT K H p (ts.map V.ty) ∧ tyKnown a = true ∧ ts.all tyKnown = true ∧ Q (.bl (if neg then !ts.contains a else ts.contains a)) H
section
variable {X : Cx}
theorem op_notInTy : OpR X (compareOp .NotIn) (rTyIn X.K true) := by
  intro pins s σ H x y v u Q I rx ry h
  obtain ⟨a, p, ts, rfl, rfl, hq, fa, fs, q⟩ := h
  cases rx
  cases ry
  obtain ⟨its, r, pl, hz⟩ := I.tuple hq
  refine SeqAt.notIn_tupleAt (isTyU a) pl (fun w hw => mem_tys fa r fs w (by simpa using hw)) ⟨.bl _, H, I, rfl, ?_⟩
  rw [show its.toArray.any (isTyU a) = its.any (isTyU a) by simp, any_tys r]
  exact q
theorem op_inTy : OpR X (compareOp .In) (rTyIn X.K false) := by
  intro pins s σ H x y v u Q I rx ry h
  obtain ⟨a, p, ts, rfl, rfl, hq, fa, fs, q⟩ := h
  cases rx
  cases ry
  obtain ⟨its, r, pl, hz⟩ := I.tuple hq
  refine SeqAt.in_tupleAt (isTyU a) pl (fun w hw => mem_tys fa r fs w (by simpa using hw)) ⟨.bl _, H, I, rfl, ?_⟩
  rw [show its.toArray.any (isTyU a) = its.any (isTyU a) by simp, any_tys r]
  exact q
end
/-! ### xs.extend(a tuple) -/
theorem ext_tup (l : Addr) (items : Array Value) (n : Nat) (b : Addr) (items2 : Array Value) (n2 : Nat) (dd : Option Addr) (sl : Array (Option Value)) (hs0 : ¬(!items.isEmpty && Builtin.List.listTooLong (items.size + items2.size)) = true)
    (hs1 : items.size ≤ sizeLine) (hs2 : items.size + items2.size ≤ sizeLine + 1) :
    Meets (Builtin.«list.extend» ⟨[.ref l, .ref b], []⟩) (fun _ R s => s.heap.get? l = some { cls := .type "list", dict := none, data := .seq items n, slots := #[] } ∧
      s.heap.get? b = some { cls := .type "tuple", dict := dd, data := .seq items2 n2, slots := sl } ∧
      R (.ok (.ret Value.none)) { s with heap := s.heap.update l (Obj.mapSeq fun x => x ++ items2), toks := s.toks }) :=
  .of_wp fun prog w A R s h => by
    obtain ⟨hp, g, d, tk, os⟩ := s
    obtain ⟨hl, hb, h⟩ := h
    have f1 := AutoSeq1.idx_int
    have f2 := AutoSeq1.sub_tuple_tuple
    have f3 := AutoSeq1.sub_list_list
    have f4 := AutoSeq1.sub_tuple_list
    have f5 := AutoSeq1.sub_list_tuple
    have hz' : (items ++ items2).size ≤ sizeLine + 1 := by
      rw [Array.size_append]
      exact hs2
    wp_walk using (wpAny_updateSeq hl rfl (hz := hs1) (_hz' := hz')), AutoSeq1.wpAny_loadPart' hl, AutoSeq1.wpAny_loadPart' hb
    exact ⟨_, rfl, h⟩
def rExtT (K : PySem.W.Frag) : V → List V → Hp → VK → Prop := fun x vs H Q => ∃ l b xs zs, x = .ref l ∧ vs = [.ref b] ∧ H l = some (.lst xs) ∧ SqT K H b zs ∧ xs.length + zs.length ≤ sizeLine ∧ Q .non (upd H l (.lst (xs ++ zs)))
section
variable {X : Cx}
theorem mt_extT : MtM X "list.extend" (rExtT X.K) := by
  intro pins s σ H x vs v us Q I rx rv h
  obtain ⟨l, b, xs, zs, rfl, rfl, hH, hB, hz, q⟩ := h
  cases rx
  obtain ⟨u, rfl, ru⟩ := rv.one
  cases ru
  obtain ⟨z, its, n, r, hl, e⟩ := I.lstM hH
  obtain ⟨its2, r2, pt, hz2⟩ := I.tuple hB
  have hl2 := r2.length
  obtain ⟨o, ho, hc, n2, hd⟩ := pt
  obtain ⟨oc, od, dt, sl⟩ := o
  simp only at hc hd
  subst hc hd
  have hsz : its.toArray.size + its2.toArray.size ≤ sizeLine := by rw [List.size_toArray, List.size_toArray]; omega
  have hlong : ¬ (!its.toArray.isEmpty && Builtin.List.listTooLong (its.toArray.size + its2.toArray.size)) = true := by
    rw [notLongL hsz, Bool.and_false]
    exact Bool.false_ne_true
  refine call_meets F.slot_list_extend ⟨_, e, rfl⟩ F.entry_list_extend (F.args_list_extend_2 _ _)
    (ext_tup l its.toArray n b its2.toArray n2 od sl hlong (by rw [List.size_toArray]; omega) (by omega)) ⟨e, ho, ?_⟩
  refine ⟨.non, _, I.lset (its' := its ++ its2) hH e (by simp) (r.append r2) ?_, rfl, q⟩
  rw [List.length_append]
  omega
end
end Rb
/-! Values: none, whole numbers, words, tuples of values. -/
namespace Rb
open PySem PySem.Spec PyProof.Rows L2
mutual
def noL : PyData → Bool
  | .none => true
  | .bool _ => true
  | .int _ => true
  | .str _ => true
  | .list _ => false
  | .tuple ds => noLs ds
  | .dict _ => false
def noLs : List PyData → Bool
  | [] => true
  | d :: ds => noL d && noLs ds
end
mutual
def sz : PyData → Nat
  | .none => 1
  | .bool _ => 1
  | .int _ => 1
  | .str _ => 1
  | .list _ => 1
  | .tuple ds => szs ds + 1
  | .dict _ => 1
def szs : List PyData → Nat
  | [] => 0
  | d :: ds => sz d + szs ds
end
mutual
/-- what the program takes for a value -/
def isVal : PyData → Bool
  | .none => true
  | .bool _ => false
  | .int _ => true
  | .str _ => true
  | .list _ => false
  | .tuple ds => isVals ds
  | .dict _ => false
def isVals : List PyData → Bool
  | [] => true
  | d :: ds => isVal d && isVals ds
end
theorem noLs_app : ∀ {xs ys : List PyData}, noLs (xs ++ ys) = (noLs xs && noLs ys)
  | [], _ => by simp [noLs]
  | x :: xs, ys => by
    show (noL x && noLs (xs ++ ys)) = (noL x && noLs xs && noLs ys)
    rw [noLs_app, Bool.and_assoc]
theorem isVals_app : ∀ {xs ys : List PyData}, isVals (xs ++ ys) = (isVals xs && isVals ys)
  | [], _ => by simp [isVals]
  | x :: xs, ys => by
    show (isVal x && isVals (xs ++ ys)) = (isVal x && isVals xs && isVals ys)
    rw [isVals_app, Bool.and_assoc]
theorem szs_app : ∀ {xs ys : List PyData}, szs (xs ++ ys) = szs xs + szs ys
  | [], _ => by simp [szs]
  | x :: xs, ys => by
    show sz x + szs (xs ++ ys) = sz x + szs xs + szs ys
    rw [szs_app, Nat.add_assoc]
theorem sz_pos : ∀ d : PyData, 1 ≤ sz d
  | .none => Nat.le_refl _
  | .bool _ => Nat.le_refl _
  | .int _ => Nat.le_refl _
  | .str _ => Nat.le_refl _
  | .list _ => Nat.le_refl _
  | .tuple ds => by
    show 1 ≤ szs ds + 1
    omega
  | .dict _ => Nat.le_refl _
theorem len_szs : ∀ ds : List PyData, ds.length ≤ szs ds
  | [] => Nat.le_refl _
  | d :: ds => by
    have := sz_pos d
    have := len_szs ds
    show ds.length + 1 ≤ sz d + szs ds
    omega
/-- the tuples stay -/
def TSame (K : PySem.W.Frag) (H H' : Hp) : Prop := ∀ a xs, SqT K H a xs → SqT K H' a xs
section
variable {K : PySem.W.Frag} {H H' : Hp}
theorem TSame.refl : TSame K H H := fun _ _ h => h
theorem TSame.trans {H2 : Hp} (a : TSame K H H') (b : TSame K H' H2) : TSame K H H2 := fun _ _ h => b _ _ (a _ _ h)
theorem TSame.same (s : Same H H') : TSame K H H' := fun a xs h => by
  rcases h with (h | ⟨o, h⟩) | h
  · exact .inl (.inl (s _ _ h))
  · exact .inl (.inr ⟨o, s _ _ h⟩)
  · exact .inr h
/-- what is no tuple may be written -/
theorem TSame.upd {p : Addr} {o : HO} (h : ∀ xs, H p ≠ some (.tup xs)) (h2 : ∀ ob xs, H p ≠ some (.frz ob (.tup xs))) : TSame K H (upd H p o) := fun a xs q => by
  rcases q with (q | ⟨ob, q⟩) | q
  · refine .inl (.inl ?_)
    rw [upd_ne fun (e : a = p) => h xs (by rw [← e]; exact q)]
    exact q
  · refine .inl (.inr ⟨ob, ?_⟩)
    rw [upd_ne fun (e : a = p) => h2 ob xs (by rw [← e]; exact q)]
    exact q
  · exact .inr q
theorem TSame.lst {p : Addr} {o : HO} {xs : List V} (h : H p = some (.lst xs)) : TSame K H (L2.upd H p o) :=
  TSame.upd (fun ys e => by rw [h] at e; cases e) fun ob ys e => by rw [h] at e; cases e
mutual
theorem Dp.ts (s : TSame K H H') : ∀ (d : PyData) (v : V), noL d = true → Dp K H v d → Dp K H' v d
  | .none, _, _, h => by
    cases h
    exact .non
  | .bool b, _, _, h => by
    cases h
    exact .bl b
  | .int i, _, _, h => by
    cases h
    exact .int i
  | .str x, _, _, h => by
    cases h
    exact .str x
  | .list ds, _, n, _ => by cases n
  | .tuple ds, _, n, h => by
    cases h with
    | tup hs ha => exact .tup (s _ _ hs) (DpAll.ts s ds _ n ha)
  | .dict _, _, _, h => by cases h
theorem DpAll.ts (s : TSame K H H') : ∀ (ds : List PyData) (vs : List V), noLs ds = true → DpAll K H vs ds → DpAll K H' vs ds
  | [], _, _, h => by
    cases h
    exact .nil
  | d :: ds, _, n, h => by
    obtain ⟨n1, n2⟩ := and2 (show (noL d && noLs ds) = true from n)
    cases h with
    | cons h1 h2 => exact .cons (Dp.ts s d _ n1 h1) (DpAll.ts s ds _ n2 h2)
end
theorem DpAll.len : ∀ {vs : List V} {ds : List PyData}, DpAll K H vs ds → vs.length = ds.length
  | _, _, .nil => rfl
  | _, _, .cons _ t => congrArg (· + 1) (DpAll.len t)
theorem DpAll.app : ∀ {vs ws : List V} {ds es : List PyData}, DpAll K H vs ds → DpAll K H ws es → DpAll K H (vs ++ ws) (ds ++ es)
  | _, _, _, _, .nil, t => t
  | _, _, _, _, .cons h r, t => .cons h (DpAll.app r t)
/-- the last one apart -/
theorem DpAll.last {vs : List V} {ds : List PyData} (h : DpAll K H vs ds) (ne : vs ≠ []) : ∃ ws x es d, vs = ws ++ [x] ∧ ds = es ++ [d] ∧ DpAll K H ws es ∧ Dp K H x d := by
  induction vs generalizing ds with
  | nil => exact absurd rfl ne
  | cons v vs ih =>
    cases h with
    | @cons v vs d ds h1 h2 =>
      cases vs with
      | nil =>
        cases h2
        exact ⟨[], v, [], d, rfl, rfl, .nil, h1⟩
      | cons v2 vs2 =>
        obtain ⟨ws, x, es, d2, e1, e2, a, b⟩ := ih h2 (by intro z; cases z)
        exact ⟨v :: ws, x, d :: es, d2, by rw [e1]; rfl, by rw [e2]; rfl, .cons h1 a, b⟩
def tyOf : PyData → String
  | .none => "NoneType"
  | .bool _ => "bool"
  | .int _ => "int"
  | .str _ => "str"
  | .list _ => "list"
  | .tuple _ => "tuple"
  | .dict _ => "dict"
theorem Dp.ty {v : V} : ∀ {d : PyData}, Dp K H v d → TyB K H v (tyOf d)
  | _, .non => .non
  | _, .bl b => .bl b
  | _, .int i => .int i
  | _, .str x => .str x
  | _, .lst h _ => .lst h
  | _, .tup h _ => .tup h
theorem tyOf_known : ∀ d : PyData, tyKnown (tyOf d) = true
  | .none => (by decide : tyKnown "NoneType" = true)
  | .bool _ => (by decide : tyKnown "bool" = true)
  | .int _ => (by decide : tyKnown "int" = true)
  | .str _ => (by decide : tyKnown "str" = true)
  | .list _ => (by decide : tyKnown "list" = true)
  | .tuple _ => (by decide : tyKnown "tuple" = true)
  | .dict _ => (by decide : tyKnown "dict" = true)
end
end Rb
/-! More of the layer: joins, consts that are texts, values that tell their type. -/
namespace Rb
open PySem PySem.Spec PyProof.Rows L2
/-- a statement whose end is told by what is kept there -/
def tJoin (t : TS) : TS := fun D σ H => ∃ J : L2.St → Hp → Prop, t { D with nx := J } σ H ∧ ∀ σ' H', J σ' H' → D.nx σ' H'
theorem ps_join {X : Cx} {st : Stmt} {t : TS} (h : PS X st t) : PS X st (tJoin t) := ⟨fun pins s σ H D I hw => by
  obtain ⟨J, h1, h2⟩ := hw
  refine thn (h.run pins s σ H _ I h1) fun f s' q => ?_
  cases f with
  | next =>
    obtain ⟨σ', H', I', j⟩ := q
    exact ⟨σ', H', I', h2 _ _ j⟩
  | _ => exact q⟩
theorem str_at {K : PySem.W.Frag} {h : Heap} {mg : Str → Option Value} {x z : Str} (X : K.In h) (G : h.Ns mainGlobals mg) (c : (He.Fa.str x z).ok K = true) : ∃ u, mg x = some u ∧ RelV (.str z) u := by
  obtain ⟨t, e⟩ := He.str_ok X G c
  exact ⟨_, e, t, rfl⟩
theorem Same.seqT {K : PySem.W.Frag} {H H' : Hp} {a : Addr} {xs : List V} (e : Same H H') (h : SqT K H a xs) : SqT K H' a xs := by
  rcases h with (h | ⟨o, h⟩) | h
  · exact .inl (.inl (e _ _ h))
  · exact .inl (.inr ⟨o, e _ _ h⟩)
  · exact .inr h
/-! ### values that tell their type: flat ones and tuples -/
def El (H : Hp) : V → Prop
  | .non => True
  | .bl _ => True
  | .int _ => True
  | .str _ => True
  | .ref a => ∃ ys, H a = some (.tup ys)
  | _ => False
def tyN : V → String
  | .non => "NoneType"
  | .bl _ => "bool"
  | .int _ => "int"
  | .str _ => "str"
  | _ => "tuple"
theorem El.ty {K : PySem.W.Frag} {H : Hp} : ∀ {v : V}, El H v → TyB K H v (tyN v)
  | .non, _ => .non
  | .bl b, _ => .bl b
  | .int i, _ => .int i
  | .str x, _ => .str x
  | .ref a, h => by
    obtain ⟨ys, e⟩ := h
    exact .tup (SqT.of e)
theorem El.tx {K : PySem.W.Frag} {H : Hp} : ∀ {v : V}, El H v → TyX K H v (.type (tyN v))
  | .non, _ => .base .non
  | .bl b, _ => .base (.bl b)
  | .int i, _ => .base (.int i)
  | .str x, _ => .base (.str x)
  | .ref a, h => by
    obtain ⟨ys, e⟩ := h
    exact .base (.tup e)
theorem El.same {H H' : Hp} (s : Same H H') : ∀ {v : V}, El H v → El H' v
  | .non, _ => trivial
  | .bl _, _ => trivial
  | .int _, _ => trivial
  | .str _, _ => trivial
  | .ref a, h => by
    obtain ⟨ys, e⟩ := h
    exact ⟨ys, s _ _ e⟩
/-- a list that is written is no tuple -/
theorem El.put {H : Hp} {p : Addr} {xs : List V} {o : HO} (e : H p = some (.lst xs)) : ∀ {v : V}, El H v → El (upd H p o) v
  | .non, _ => trivial
  | .bl _, _ => trivial
  | .int _, _ => trivial
  | .str _, _ => trivial
  | .ref a, h => by
    obtain ⟨ys, k⟩ := h
    refine ⟨ys, ?_⟩
    rw [upd_ne (fun z => by subst z; rw [e] at k; cases k)]
    exact k
/-- what is new since may be written -/
theorem Same.put {H H' : Hp} {p : Addr} {o : HO} (s : Same H H') (h : H p = none) : Same H (upd H' p o) := fun b u e => by
  rw [upd_ne (ne_of_none e h)]
  exact s b u e
/-- a list or a tuple of such -/
def Sv (H : Hp) (v : V) (t : Bool) (xs : List V) : Prop := ∃ a, v = .ref a ∧ (if t then H a = some (.tup xs) else H a = some (.lst xs)) ∧ xs.length ≤ 64 ∧ ∀ x ∈ xs, El H x
theorem Sv.ty {K : PySem.W.Frag} {H : Hp} {v : V} {t : Bool} {xs : List V} (h : Sv H v t xs) : TyB K H v (if t then "tuple" else "list") := by
  obtain ⟨a, rfl, e, _⟩ := h
  cases t
  · exact .lst (SqL.of e)
  · exact .tup (SqT.of e)
theorem Sv.tx {K : PySem.W.Frag} {H : Hp} {v : V} {t : Bool} {xs : List V} (h : Sv H v t xs) : TyX K H v (.type (if t then "tuple" else "list")) := by
  obtain ⟨a, rfl, e, _⟩ := h
  cases t
  · exact .base (.lst e)
  · exact .base (.tup e)
theorem Sv.same {H H' : Hp} (s : Same H H') {v : V} {t : Bool} {xs : List V} (h : Sv H v t xs) : Sv H' v t xs := by
  obtain ⟨a, rfl, e, l, k⟩ := h
  refine ⟨a, rfl, ?_, l, fun x hx => (k x hx).same s⟩
  cases t
  · exact s _ _ e
  · exact s _ _ e
end Rb
/-! Data that stays, a list's item that is added to. -/
namespace Rb
open PySem PySem.Spec PyProof.Rows L2
/-- xs[i], the index from the left, as what is added to -/
def rGetL (K : PySem.W.Frag) : V → V → Hp → VK → Prop := fun x y H Q => ∃ p xs i v, x = .ref p ∧ y = .int i ∧ 0 ≤ i ∧ i < 2 ^ 63 ∧ SqL K H p xs ∧ xs[i.toNat]? = some v ∧ Q v H
theorem get_list {X : Cx} : PGet X (rGetL X.K) := by
  intro pins s σ H x y v u Q I rx ry h
  obtain ⟨p, xs, i, z, rfl, rfl, h0, h63, hq, he, q⟩ := h
  cases rx
  obtain ⟨t, rfl⟩ := ry
  obtain ⟨its, r, pl, hz⟩ := I.list hq
  obtain ⟨w, ew, rw'⟩ := r.get he
  exact wpAny_getItem_list pl.isList h0 h63 (by simpa using ew) ⟨z, H, I, rw', q⟩
section
variable {K : PySem.W.Frag} {H H' : Hp}
mutual
theorem Dp.same (s : Same H H') : ∀ (d : PyData) (v : V), Dp K H v d → Dp K H' v d
  | .none, _, h => by
    cases h
    exact .non
  | .bool b, _, h => by
    cases h
    exact .bl b
  | .int i, _, h => by
    cases h
    exact .int i
  | .str x, _, h => by
    cases h
    exact .str x
  | .list ds, _, h => by
    cases h with
    | lst hs ha => exact .lst (Same.seq s hs) (DpAll.same s ds _ ha)
  | .tuple ds, _, h => by
    cases h with
    | tup hs ha => exact .tup (Same.seqT s hs) (DpAll.same s ds _ ha)
  | .dict _, _, h => by cases h
theorem DpAll.same (s : Same H H') : ∀ (ds : List PyData) (vs : List V), DpAll K H vs ds → DpAll K H' vs ds
  | [], _, h => by
    cases h
    exact .nil
  | d :: ds, _, h => by
    cases h with
    | cons h1 h2 => exact .cons (Dp.same s d _ h1) (DpAll.same s ds _ h2)
end
theorem SqL.tx {a : Addr} {xs : List V} (h : SqL K H a xs) : TyX K H (.ref a) (.type "list") := by
  rcases h with (h | ⟨o, h⟩) | ⟨o, its, n, hk, hc, _⟩
  · exact .base (.lst h)
  · exact .base (.frz h)
  · exact .kList hk hc
theorem SqT.tx {a : Addr} {xs : List V} (h : SqT K H a xs) : TyX K H (.ref a) (.type "tuple") := by
  rcases h with (h | ⟨o, h⟩) | ⟨o, its, n, hk, hc, _⟩
  · exact .base (.tup h)
  · exact .fTuple h
  · exact .kTuple hk hc
theorem Dp.tx {v : V} : ∀ {d : PyData}, Dp K H v d → TyX K H v (.type (tyOf d))
  | _, .non => .base .non
  | _, .bl b => .base (.bl b)
  | _, .int i => .base (.int i)
  | _, .str x => .base (.str x)
  | _, .lst h _ => SqL.tx h
  | _, .tup h _ => SqT.tx h
theorem dp_ints : ∀ l : List Int, DpAll K H (l.map V.int) (l.map PyData.int)
  | [] => .nil
  | _ :: r => .cons (.int _) (dp_ints r)
end
theorem lay_ints : ∀ l : List Int, PyData.canLayAll0 (l.map PyData.int) = true
  | [] => rfl
  | i :: r => by
    show PyData.canLayAll0 (PyData.int i :: r.map PyData.int) = true
    simp only [PyData.canLayAll0, PyData.canLay0, lay_ints r, Bool.true_and]
theorem dep_ints : ∀ l : List Int, PyData.depthAll (l.map PyData.int) = 0
  | [] => rfl
  | i :: r => by
    show PyData.depthAll (PyData.int i :: r.map PyData.int) = 0
    simp only [PyData.depthAll, PyData.depth, dep_ints r]
    rfl
abbrev dBlk (l : List Int) : PyData := .tuple (l.map PyData.int)
theorem lay_blks : ∀ ls : List (List Int), PyData.canLayAll0 (ls.map dBlk) = true
  | [] => rfl
  | l :: r => by
    show PyData.canLayAll0 (.tuple (l.map PyData.int) :: r.map dBlk) = true
    simp only [PyData.canLayAll0, PyData.canLay0, lay_ints l, lay_blks r, Bool.true_and]
theorem dep_blks : ∀ ls : List (List Int), PyData.depthAll (ls.map dBlk) ≤ 1
  | [] => Nat.zero_le _
  | l :: r => by
    have := dep_blks r
    show PyData.depthAll (.tuple (l.map PyData.int) :: r.map dBlk) ≤ 1
    simp only [PyData.depthAll, PyData.depth, dep_ints l]
    omega
theorem shaped_blk (l : List Int) : SeqAt.shaped (dBlk l) = true := by
  simp only [SeqAt.shaped, dBlk, PyData.canLay0, lay_ints, PyData.depth, dep_ints]
  rfl
theorem shaped_tab (ls : List (List Int)) : SeqAt.shaped (.tuple (ls.map dBlk)) = true := by
  have := dep_blks ls
  simp only [SeqAt.shaped, PyData.canLay0, lay_blks, PyData.depth, Bool.true_and, decide_eq_true_eq]
  exact decide_eq_true (Nat.le_trans (Nat.succ_le_succ this) (by decide : 2 ≤ 64))
/-- a tape that is read number by number -/
structure TpS where
  l : Addr
  ns : List Int
  pos : Nat
  rest : Int
  seed : Int
def TpS.ho (s : TpS) : HO := .lst [.ref s.l, .int (s.pos : Int), .int s.rest, .int s.seed]
structure TpOk (H : Hp) (t : Addr) (s : TpS) : Prop where
  ot : H t = some s.ho
  ol : H s.l = some (.lst (s.ns.map V.int))
  ne : s.l ≠ t
  hl : s.ns.length ≤ 63
  hp : s.pos ≤ s.ns.length
  h0 : 0 ≤ s.rest
  h1 : 0 ≤ s.seed
  h2 : s.seed < 2147483647
def Tp (H : Hp) (t l : Addr) : Prop := ∃ s, s.l = l ∧ TpOk H t s
/-- all but what stands at t stays -/
def Kp (t : Addr) (H H' : Hp) : Prop := ∀ b o, H b = some o → b ≠ t → H' b = some o
theorem Kp.refl {t : Addr} {H : Hp} : Kp t H H := fun _ _ h _ => h
theorem Kp.trans {t : Addr} {H H1 H2 : Hp} (a : Kp t H H1) (b : Kp t H1 H2) : Kp t H H2 := fun c o h n => b c o (a c o h n) n
theorem Kp.of {t : Addr} {H H' : Hp} (s : Same H H') : Kp t H H' := fun b o h _ => s b o h
theorem Kp.upd {t : Addr} {H H' : Hp} {o : HO} (a : Kp t H H') : Kp t H (upd H' t o) := fun b u h n => by
  rw [upd_ne n]
  exact a b u h n
theorem Kp.new {t p : Addr} {H H' : Hp} {o : HO} (a : Kp t H H') (ht : H t ≠ none) (h : H' p = none) : Kp t H (L2.upd H' p o) := fun b u e n => by
  have q := a b u e n
  rw [upd_ne (ne_of_none q h)]
  exact q
theorem Kp.free {t p : Addr} {H H' : Hp} (a : Kp t H H') (ht : H' t ≠ none) (h : H' p = none) : H p = none := by
  cases e : H p with
  | none => rfl
  | some o =>
    by_cases c : p = t
    · subst c
      exact absurd h ht
    · rw [a p o e c] at h
      cases h
theorem TpOk.same {H H' : Hp} {t : Addr} {s : TpS} (h : TpOk H t s) (k : Same H H') : TpOk H' t s := ⟨k _ _ h.ot, k _ _ h.ol, h.ne, h.hl, h.hp, h.h0, h.h1, h.h2⟩
theorem Tp.same {H H' : Hp} {t l : Addr} (h : Tp H t l) (k : Same H H') : Tp H' t l := h.imp fun _ x => ⟨x.1, x.2.same k⟩
theorem Tp.at {H : Hp} {t l : Addr} (h : Tp H t l) : H t ≠ none := by
  obtain ⟨s, _, h⟩ := h
  rw [h.ot]
  exact fun z => nomatch z
theorem Tp.atl {H : Hp} {t l : Addr} (h : Tp H t l) : H l ≠ none := by
  obtain ⟨s, rfl, h⟩ := h
  rw [h.ol]
  exact fun z => nomatch z
theorem Tp.lst {H : Hp} {t l : Addr} (h : Tp H t l) : ∃ xs, H t = some (.lst xs) := by
  obtain ⟨s, _, h⟩ := h
  exact ⟨_, h.ot⟩
theorem Tp.nt {H : Hp} {t l p : Addr} (h : Tp H t l) (hp : H p = none) : p ≠ t := fun z => h.at (by rw [← z]; exact hp)
theorem Tp.nl {H : Hp} {t l p : Addr} (h : Tp H t l) (hp : H p = none) : p ≠ l := fun z => h.atl (by rw [← z]; exact hp)
theorem Tp.upd {H : Hp} {t l p : Addr} {o : HO} (h : Tp H t l) (n1 : p ≠ t) (n2 : p ≠ l) : Tp (upd H p o) t l := by
  obtain ⟨s, rfl, h⟩ := h
  exact ⟨s, rfl, by rw [upd_ne n1.symm]; exact h.ot, by rw [upd_ne n2.symm]; exact h.ol, h.ne, h.hl, h.hp, h.h0, h.h1, h.h2⟩
/-- what is no list stays when a list is written -/
theorem Kp.ts {K : PySem.W.Frag} {t l : Addr} {H H' : Hp} (k : Kp t H H') (h : Tp H t l) : TSame K H H' := fun a xs q => by
  obtain ⟨ys, e⟩ := h.lst
  rcases q with (q | ⟨ob, q⟩) | q
  · exact .inl (.inl (k _ _ q fun z => by subst z; rw [e] at q; cases q))
  · exact .inl (.inr ⟨ob, k _ _ q fun z => by subst z; rw [e] at q; cases q⟩)
  · exact .inr q
def spNext : Sp := fun vs H Q _ => ∃ t l m, vs = [.ref t, .int m] ∧ Tp H t l ∧ 0 < m ∧ m < 1000 ∧ ∀ r H', Kp t H H' → Tp H' t l → 0 ≤ r → r < m → Q (.int r) H'
theorem _root_.L2.Dp.ty {K : PySem.W.Frag} {H : Hp} {v : V} {d : PyData} (h : Dp K H v d) : TyB K H v (tyOf d) := Rb.Dp.ty h
theorem _root_.L2.Dp.tx {K : PySem.W.Frag} {H : Hp} {v : V} {d : PyData} (h : Dp K H v d) : TyX K H v (.type (tyOf d)) := Rb.Dp.tx h
theorem _root_.L2.Dp.same {K : PySem.W.Frag} {H H' : Hp} {v : V} {d : PyData} (h : Dp K H v d) (s : Same H H') : Dp K H' v d := Rb.Dp.same s d v h
theorem _root_.L2.DpAll.same {K : PySem.W.Frag} {H H' : Hp} {v : List V} {d : List PyData} (h : DpAll K H v d) (s : Same H H') : DpAll K H' v d := Rb.DpAll.same s d v h
theorem eqv_self {d : PyData} (h : SeqAt.shaped d = true) : PyData.eqv d d = true := SeqAt.eqv_refl d (SeqAt.canLay_of_shaped h)
end Rb
namespace Rb
open PySem PySem.Spec PyProof.Rows L2
def top (i : Nat) : Stmt := PySem.Challenge.pw_ringbound_k05_whole_rings.main.body.getD i (.Pass ⟨0, 0, 0, 0⟩)
abbrev s_RingError___init__ : Stmt := inClass (top 2) 0
def d_RingError___init__ : He.DefD := ⟨("RingError", some "__init__"), "__init__", "RingError.__init__", defArgs s_RingError___init__, defBody s_RingError___init__, defScope s_RingError___init__, [], []⟩
theorem sc_RingError___init__ : FnScope ["self"] ["self"] (defScope s_RingError___init__) := ⟨rfl, rfl, rfl, by decide +kernel, rfl, by decide +kernel, by decide +kernel⟩
abbrev s_NotValid___init__ : Stmt := inClass (top 3) 0
def d_NotValid___init__ : He.DefD := ⟨("NotValid", some "__init__"), "__init__", "NotValid.__init__", defArgs s_NotValid___init__, defBody s_NotValid___init__, defScope s_NotValid___init__, [], []⟩
theorem sc_NotValid___init__ : FnScope ["self"] ["self"] (defScope s_NotValid___init__) := ⟨rfl, rfl, rfl, by decide +kernel, rfl, by decide +kernel, by decide +kernel⟩
abbrev s_is_integer : Stmt := top 5
def d_is_integer : He.DefD := ⟨("is_integer", none), "is_integer", "is_integer", defArgs s_is_integer, defBody s_is_integer, defScope s_is_integer, [], []⟩
theorem sc_is_integer : FnScope ["value"] ["value"] (defScope s_is_integer) := ⟨rfl, rfl, rfl, by decide +kernel, rfl, by decide +kernel, by decide +kernel⟩
abbrev s_is_number : Stmt := top 6
def d_is_number : He.DefD := ⟨("is_number", none), "is_number", "is_number", defArgs s_is_number, defBody s_is_number, defScope s_is_number, [], []⟩
theorem sc_is_number : FnScope ["value", "limit"] ["value", "limit"] (defScope s_is_number) := ⟨rfl, rfl, rfl, by decide +kernel, rfl, by decide +kernel, by decide +kernel⟩
abbrev s_is_value : Stmt := top 7
def d_is_value : He.DefD := ⟨("is_value", none), "is_value", "is_value", defArgs s_is_value, defBody s_is_value, defScope s_is_value, [], []⟩
theorem sc_is_value : FnScope ["value", "left", "part"] ["value"] (defScope s_is_value) := ⟨rfl, rfl, rfl, by decide +kernel, rfl, by decide +kernel, by decide +kernel⟩
abbrev s_is_word : Stmt := top 14
def d_is_word : He.DefD := ⟨("is_word", none), "is_word", "is_word", defArgs s_is_word, defBody s_is_word, defScope s_is_word, [], []⟩
theorem sc_is_word : FnScope ["value", "frame", "right"] ["value"] (defScope s_is_word) := ⟨rfl, rfl, rfl, by decide +kernel, rfl, by decide +kernel, by decide +kernel⟩
abbrev s_Guard___init__ : Stmt := inClass (top 15) 0
def d_Guard___init__ : He.DefD := ⟨("Guard", some "__init__"), "__init__", "Guard.__init__", defArgs s_Guard___init__, defBody s_Guard___init__, defScope s_Guard___init__, [], []⟩
theorem sc_Guard___init__ : FnScope ["self"] ["self"] (defScope s_Guard___init__) := ⟨rfl, rfl, rfl, by decide +kernel, rfl, by decide +kernel, by decide +kernel⟩
abbrev s_Guard_use : Stmt := inClass (top 15) 1
def d_Guard_use : He.DefD := ⟨("Guard", some "use"), "use", "Guard.use", defArgs s_Guard_use, defBody s_Guard_use, defScope s_Guard_use, [], []⟩
theorem sc_Guard_use : FnScope ["self", "page", "right", "word", "entry", "frame", "allowed"] ["self", "page", "right", "word"] (defScope s_Guard_use) := ⟨rfl, rfl, rfl, by decide +kernel, rfl, by decide +kernel, by decide +kernel⟩
abbrev s_Guard_command : Stmt := inClass (top 15) 2
def d_Guard_command : He.DefD := ⟨("Guard", some "command"), "command", "Guard.command", defArgs s_Guard_command, defBody s_Guard_command, defScope s_Guard_command, [], []⟩
theorem sc_Guard_command : FnScope ["self", "page"] ["self", "page"] (defScope s_Guard_command) := ⟨rfl, rfl, rfl, by decide +kernel, rfl, by decide +kernel, by decide +kernel⟩
abbrev s_Guard_drop : Stmt := inClass (top 15) 3
def d_Guard_drop : He.DefD := ⟨("Guard", some "drop"), "drop", "Guard.drop", defArgs s_Guard_drop, defBody s_Guard_drop, defScope s_Guard_drop, [], []⟩
theorem sc_Guard_drop : FnScope ["self", "page", "ticket"] ["self"] (defScope s_Guard_drop) := ⟨rfl, rfl, rfl, by decide +kernel, rfl, by decide +kernel, by decide +kernel⟩
abbrev s_Guard_entries : Stmt := inClass (top 15) 4
def d_Guard_entries : He.DefD := ⟨("Guard", some "entries"), "entries", "Guard.entries", defArgs s_Guard_entries, defBody s_Guard_entries, defScope s_Guard_entries, [], []⟩
theorem sc_Guard_entries : FnScope ["self", "page"] ["self"] (defScope s_Guard_entries) := ⟨rfl, rfl, rfl, by decide +kernel, rfl, by decide +kernel, by decide +kernel⟩
abbrev s_Guard_queue : Stmt := inClass (top 15) 5
def d_Guard_queue : He.DefD := ⟨("Guard", some "queue"), "queue", "Guard.queue", defArgs s_Guard_queue, defBody s_Guard_queue, defScope s_Guard_queue, [], []⟩
theorem sc_Guard_queue : FnScope ["self"] ["self"] (defScope s_Guard_queue) := ⟨rfl, rfl, rfl, by decide +kernel, rfl, by decide +kernel, by decide +kernel⟩
abbrev s_frame_cell : Stmt := top 21
def d_frame_cell : He.DefD := ⟨("frame_cell", none), "frame_cell", "frame_cell", defArgs s_frame_cell, defBody s_frame_cell, defScope s_frame_cell, [], []⟩
theorem sc_frame_cell : FnScope ["device", "frame", "index"] ["device", "frame", "index"] (defScope s_frame_cell) := ⟨rfl, rfl, rfl, by decide +kernel, rfl, by decide +kernel, by decide +kernel⟩
abbrev s_doorbell : Stmt := top 22
def d_doorbell : He.DefD := ⟨("doorbell", none), "doorbell", "doorbell", defArgs s_doorbell, defBody s_doorbell, defScope s_doorbell, [], []⟩
theorem sc_doorbell : FnScope ["device"] ["device"] (defScope s_doorbell) := ⟨rfl, rfl, rfl, by decide +kernel, rfl, by decide +kernel, by decide +kernel⟩
abbrev s_table_word : Stmt := top 23
def d_table_word : He.DefD := ⟨("table_word", none), "table_word", "table_word", defArgs s_table_word, defBody s_table_word, defScope s_table_word, [], []⟩
theorem sc_table_word : FnScope ["device", "page"] ["device", "page"] (defScope s_table_word) := ⟨rfl, rfl, rfl, by decide +kernel, rfl, by decide +kernel, by decide +kernel⟩
abbrev s_acknowledge : Stmt := top 24
def d_acknowledge : He.DefD := ⟨("acknowledge", none), "acknowledge", "acknowledge", defArgs s_acknowledge, defBody s_acknowledge, defScope s_acknowledge, [], []⟩
theorem sc_acknowledge : FnScope ["device"] ["device"] (defScope s_acknowledge) := ⟨rfl, rfl, rfl, by decide +kernel, rfl, by decide +kernel, by decide +kernel⟩
abbrev s_first_cells : Stmt := top 25
def d_first_cells : He.DefD := ⟨("first_cells", none), "first_cells", "first_cells", defArgs s_first_cells, defBody s_first_cells, defScope s_first_cells, [], []⟩
theorem sc_first_cells : FnScope ["cells", "device", "frame", "index", "page"] [] (defScope s_first_cells) := ⟨rfl, rfl, rfl, by decide +kernel, rfl, by decide +kernel, by decide +kernel⟩
abbrev s_is_tuple_of_values : Stmt := top 26
def d_is_tuple_of_values : He.DefD := ⟨("is_tuple_of_values", none), "is_tuple_of_values", "is_tuple_of_values", defArgs s_is_tuple_of_values, defBody s_is_tuple_of_values, defScope s_is_tuple_of_values, [], []⟩
theorem sc_is_tuple_of_values : FnScope ["part"] ["part"] (defScope s_is_tuple_of_values) := ⟨rfl, rfl, rfl, by decide +kernel, rfl, by decide +kernel, by decide +kernel⟩
abbrev s_fits : Stmt := top 27
def d_fits : He.DefD := ⟨("fits", none), "fits", "fits", defArgs s_fits, defBody s_fits, defScope s_fits, [], []⟩
theorem sc_fits : FnScope ["kind", "part"] ["kind", "part"] (defScope s_fits) := ⟨rfl, rfl, rfl, by decide +kernel, rfl, by decide +kernel, by decide +kernel⟩
abbrev s_is_actor : Stmt := top 28
def d_is_actor : He.DefD := ⟨("is_actor", none), "is_actor", "is_actor", defArgs s_is_actor, defBody s_is_actor, defScope s_is_actor, [], []⟩
theorem sc_is_actor : FnScope ["actor", "role", "device"] ["actor"] (defScope s_is_actor) := ⟨rfl, rfl, rfl, by decide +kernel, rfl, by decide +kernel, by decide +kernel⟩
abbrev s_has_form : Stmt := top 29
def d_has_form : He.DefD := ⟨("has_form", none), "has_form", "has_form", defArgs s_has_form, defBody s_has_form, defScope s_has_form, [], []⟩
theorem sc_has_form : FnScope ["role", "request", "word", "parts", "roles", "kinds", "kind", "part"] ["role", "request"] (defScope s_has_form) := ⟨rfl, rfl, rfl, by decide +kernel, rfl, by decide +kernel, by decide +kernel⟩
abbrev s_stands_in : Stmt := top 30
def d_stands_in : He.DefD := ⟨("stands_in", none), "stands_in", "stands_in", defArgs s_stands_in, defBody s_stands_in, defScope s_stands_in, [], []⟩
theorem sc_stands_in : FnScope ["cell", "first", "many"] ["cell", "first", "many"] (defScope s_stands_in) := ⟨rfl, rfl, rfl, by decide +kernel, rfl, by decide +kernel, by decide +kernel⟩
abbrev s_is_register : Stmt := top 31
def d_is_register : He.DefD := ⟨("is_register", none), "is_register", "is_register", defArgs s_is_register, defBody s_is_register, defScope s_is_register, [], []⟩
theorem sc_is_register : FnScope ["device", "cell"] ["device", "cell"] (defScope s_is_register) := ⟨rfl, rfl, rfl, by decide +kernel, rfl, by decide +kernel, by decide +kernel⟩
abbrev s_is_table_word : Stmt := top 32
def d_is_table_word : He.DefD := ⟨("is_table_word", none), "is_table_word", "is_table_word", defArgs s_is_table_word, defBody s_is_table_word, defScope s_is_table_word, [], []⟩
theorem sc_is_table_word : FnScope ["device", "cell"] ["device", "cell"] (defScope s_is_table_word) := ⟨rfl, rfl, rfl, by decide +kernel, rfl, by decide +kernel, by decide +kernel⟩
abbrev s_may_reach : Stmt := top 33
def d_may_reach : He.DefD := ⟨("may_reach", none), "may_reach", "may_reach", defArgs s_may_reach, defBody s_may_reach, defScope s_may_reach, [], []⟩
theorem sc_may_reach : FnScope ["role", "device", "cell", "is_frame_cell", "is_word_cell"] ["role", "device", "cell"] (defScope s_may_reach) := ⟨rfl, rfl, rfl, by decide +kernel, rfl, by decide +kernel, by decide +kernel⟩
abbrev s_is_allowed : Stmt := top 34
def d_is_allowed : He.DefD := ⟨("is_allowed", none), "is_allowed", "is_allowed", defArgs s_is_allowed, defBody s_is_allowed, defScope s_is_allowed, [], []⟩
theorem sc_is_allowed : FnScope ["actor", "request", "role", "device", "cell"] ["actor", "request"] (defScope s_is_allowed) := ⟨rfl, rfl, rfl, by decide +kernel, rfl, by decide +kernel, by decide +kernel⟩
abbrev s_Memory___init__ : Stmt := inClass (top 35) 0
def d_Memory___init__ : He.DefD := ⟨("Memory", some "__init__"), "__init__", "Memory.__init__", defArgs s_Memory___init__, defBody s_Memory___init__, defScope s_Memory___init__, [], []⟩
theorem sc_Memory___init__ : FnScope ["self", "device"] ["self"] (defScope s_Memory___init__) := ⟨rfl, rfl, rfl, by decide +kernel, rfl, by decide +kernel, by decide +kernel⟩
abbrev s_Memory_access : Stmt := inClass (top 35) 1
def d_Memory_access : He.DefD := ⟨("Memory", some "access"), "access", "Memory.access", defArgs s_Memory_access, defBody s_Memory_access, defScope s_Memory_access, [], []⟩
theorem sc_Memory_access : FnScope ["self", "actor", "request", "result"] ["self", "actor", "request"] (defScope s_Memory_access) := ⟨rfl, rfl, rfl, by decide +kernel, rfl, by decide +kernel, by decide +kernel⟩
abbrev s_Memory_block : Stmt := inClass (top 35) 3
def d_Memory_block : He.DefD := ⟨("Memory", some "block"), "block", "Memory.block", defArgs s_Memory_block, defBody s_Memory_block, defScope s_Memory_block, [], []⟩
theorem sc_Memory_block : FnScope ["self", "device", "block"] ["self", "device", "block"] (defScope s_Memory_block) := ⟨rfl, rfl, rfl, by decide +kernel, rfl, by decide +kernel, by decide +kernel⟩
abbrev s_Memory_journal : Stmt := inClass (top 35) 4
def d_Memory_journal : He.DefD := ⟨("Memory", some "journal"), "journal", "Memory.journal", defArgs s_Memory_journal, defBody s_Memory_journal, defScope s_Memory_journal, [], []⟩
theorem sc_Memory_journal : FnScope ["self", "device"] ["self", "device"] (defScope s_Memory_journal) := ⟨rfl, rfl, rfl, by decide +kernel, rfl, by decide +kernel, by decide +kernel⟩
abbrev s_Memory_log : Stmt := inClass (top 35) 5
def d_Memory_log : He.DefD := ⟨("Memory", some "log"), "log", "Memory.log", defArgs s_Memory_log, defBody s_Memory_log, defScope s_Memory_log, [], []⟩
theorem sc_Memory_log : FnScope ["self"] ["self"] (defScope s_Memory_log) := ⟨rfl, rfl, rfl, by decide +kernel, rfl, by decide +kernel, by decide +kernel⟩
abbrev s_Memory__result_of : Stmt := inClass (top 35) 6
def d_Memory__result_of : He.DefD := ⟨("Memory", some "_result_of"), "_result_of", "Memory._result_of", defArgs s_Memory__result_of, defBody s_Memory__result_of, defScope s_Memory__result_of, [], []⟩
theorem sc_Memory__result_of : FnScope ["self", "device", "request", "cell", "value", "page", "index", "block", "values", "generation", "sequence", "rows"] ["self", "device", "request"] (defScope s_Memory__result_of) := ⟨rfl, rfl, rfl, by decide +kernel, rfl, by decide +kernel, by decide +kernel⟩
abbrev s_Memory__dma_cell : Stmt := inClass (top 35) 7
def d_Memory__dma_cell : He.DefD := ⟨("Memory", some "_dma_cell"), "_dma_cell", "Memory._dma_cell", defArgs s_Memory__dma_cell, defBody s_Memory__dma_cell, defScope s_Memory__dma_cell, [], []⟩
theorem sc_Memory__dma_cell : FnScope ["self", "device", "page", "index", "right", "word", "frame"] ["self", "device", "page", "index", "right"] (defScope s_Memory__dma_cell) := ⟨rfl, rfl, rfl, by decide +kernel, rfl, by decide +kernel, by decide +kernel⟩
abbrev s_Memory__dma_read : Stmt := inClass (top 35) 8
def d_Memory__dma_read : He.DefD := ⟨("Memory", some "_dma_read"), "_dma_read", "Memory._dma_read", defArgs s_Memory__dma_read, defBody s_Memory__dma_read, defScope s_Memory__dma_read, [], []⟩
theorem sc_Memory__dma_read : FnScope ["self", "device", "page", "index", "cell"] ["self", "device", "page", "index"] (defScope s_Memory__dma_read) := ⟨rfl, rfl, rfl, by decide +kernel, rfl, by decide +kernel, by decide +kernel⟩
abbrev s_Memory__dma_write : Stmt := inClass (top 35) 9
def d_Memory__dma_write : He.DefD := ⟨("Memory", some "_dma_write"), "_dma_write", "Memory._dma_write", defArgs s_Memory__dma_write, defBody s_Memory__dma_write, defScope s_Memory__dma_write, [], []⟩
theorem sc_Memory__dma_write : FnScope ["self", "device", "page", "index", "value", "cell"] ["self", "device", "page", "index", "value"] (defScope s_Memory__dma_write) := ⟨rfl, rfl, rfl, by decide +kernel, rfl, by decide +kernel, by decide +kernel⟩
abbrev s_Memory__drop : Stmt := inClass (top 35) 10
def d_Memory__drop : He.DefD := ⟨("Memory", some "_drop"), "_drop", "Memory._drop", defArgs s_Memory__drop, defBody s_Memory__drop, defScope s_Memory__drop, [], []⟩
theorem sc_Memory__drop : FnScope ["self", "device", "ticket"] ["self", "device"] (defScope s_Memory__drop) := ⟨rfl, rfl, rfl, by decide +kernel, rfl, by decide +kernel, by decide +kernel⟩
abbrev s_slot_of : Stmt := top 42
def d_slot_of : He.DefD := ⟨("slot_of", none), "slot_of", "slot_of", defArgs s_slot_of, defBody s_slot_of, defScope s_slot_of, [], []⟩
theorem sc_slot_of : FnScope ["number"] ["number"] (defScope s_slot_of) := ⟨rfl, rfl, rfl, by decide +kernel, rfl, by decide +kernel, by decide +kernel⟩
abbrev s_phase_of : Stmt := top 43
def d_phase_of : He.DefD := ⟨("phase_of", none), "phase_of", "phase_of", defArgs s_phase_of, defBody s_phase_of, defScope s_phase_of, [], []⟩
theorem sc_phase_of : FnScope ["number"] ["number"] (defScope s_phase_of) := ⟨rfl, rfl, rfl, by decide +kernel, rfl, by decide +kernel, by decide +kernel⟩
abbrev s_is_tag : Stmt := top 44
def d_is_tag : He.DefD := ⟨("is_tag", none), "is_tag", "is_tag", defArgs s_is_tag, defBody s_is_tag, defScope s_is_tag, [], []⟩
theorem sc_is_tag : FnScope ["part"] ["part"] (defScope s_is_tag) := ⟨rfl, rfl, rfl, by decide +kernel, rfl, by decide +kernel, by decide +kernel⟩
abbrev s_is_order : Stmt := top 45
def d_is_order : He.DefD := ⟨("is_order", none), "is_order", "is_order", defArgs s_is_order, defBody s_is_order, defScope s_is_order, [], []⟩
theorem sc_is_order : FnScope ["tag", "kind", "block"] ["tag", "kind", "block"] (defScope s_is_order) := ⟨rfl, rfl, rfl, by decide +kernel, rfl, by decide +kernel, by decide +kernel⟩
abbrev s_is_entry_number : Stmt := top 46
def d_is_entry_number : He.DefD := ⟨("is_entry_number", none), "is_entry_number", "is_entry_number", defArgs s_is_entry_number, defBody s_is_entry_number, defScope s_is_entry_number, [], []⟩
theorem sc_is_entry_number : FnScope ["part"] ["part"] (defScope s_is_entry_number) := ⟨rfl, rfl, rfl, by decide +kernel, rfl, by decide +kernel, by decide +kernel⟩
abbrev s_has_phase : Stmt := top 47
def d_has_phase : He.DefD := ⟨("has_phase", none), "has_phase", "has_phase", defArgs s_has_phase, defBody s_has_phase, defScope s_has_phase, [], []⟩
theorem sc_has_phase : FnScope ["part", "number"] ["part", "number"] (defScope s_has_phase) := ⟨rfl, rfl, rfl, by decide +kernel, rfl, by decide +kernel, by decide +kernel⟩
abbrev s_descriptor : Stmt := top 48
def d_descriptor : He.DefD := ⟨("descriptor", none), "descriptor", "descriptor", defArgs s_descriptor, defBody s_descriptor, defScope s_descriptor, [], []⟩
theorem sc_descriptor : FnScope ["tag", "kind", "block", "sequence"] ["tag", "kind", "block", "sequence"] (defScope s_descriptor) := ⟨rfl, rfl, rfl, by decide +kernel, rfl, by decide +kernel, by decide +kernel⟩
abbrev s_completion : Stmt := top 49
def d_completion : He.DefD := ⟨("completion", none), "completion", "completion", defArgs s_completion, defBody s_completion, defScope s_completion, [], []⟩
theorem sc_completion : FnScope ["tag", "number"] ["tag", "number"] (defScope s_completion) := ⟨rfl, rfl, rfl, by decide +kernel, rfl, by decide +kernel, by decide +kernel⟩
abbrev s_is_new_descriptor : Stmt := top 50
def d_is_new_descriptor : He.DefD := ⟨("is_new_descriptor", none), "is_new_descriptor", "is_new_descriptor", defArgs s_is_new_descriptor, defBody s_is_new_descriptor, defScope s_is_new_descriptor, [], []⟩
theorem sc_is_new_descriptor : FnScope ["value", "number", "tag", "kind", "block", "phase", "sequence"] ["value", "number"] (defScope s_is_new_descriptor) := ⟨rfl, rfl, rfl, by decide +kernel, rfl, by decide +kernel, by decide +kernel⟩
abbrev s_is_completion : Stmt := top 51
def d_is_completion : He.DefD := ⟨("is_completion", none), "is_completion", "is_completion", defArgs s_is_completion, defBody s_is_completion, defScope s_is_completion, [], []⟩
theorem sc_is_completion : FnScope ["value", "tag", "word", "phase"] ["value"] (defScope s_is_completion) := ⟨rfl, rfl, rfl, by decide +kernel, rfl, by decide +kernel, by decide +kernel⟩
abbrev s_is_new_completion : Stmt := top 52
def d_is_new_completion : He.DefD := ⟨("is_new_completion", none), "is_new_completion", "is_new_completion", defArgs s_is_new_completion, defBody s_is_new_completion, defScope s_is_new_completion, [], []⟩
theorem sc_is_new_completion : FnScope ["value", "number"] ["value", "number"] (defScope s_is_new_completion) := ⟨rfl, rfl, rfl, by decide +kernel, rfl, by decide +kernel, by decide +kernel⟩
abbrev s__law_tape : Stmt := top 54
def d__law_tape : He.DefD := ⟨("_law_tape", none), "_law_tape", "_law_tape", defArgs s__law_tape, defBody s__law_tape, defScope s__law_tape, [], []⟩
theorem sc__law_tape : FnScope ["script", "tape", "k", "value", "step"] ["script"] (defScope s__law_tape) := ⟨rfl, rfl, rfl, by decide +kernel, rfl, by decide +kernel, by decide +kernel⟩
abbrev s__law_at : Stmt := top 55
def d__law_at : He.DefD := ⟨("_law_at", none), "_law_at", "_law_at", defArgs s__law_at, defBody s__law_at, defScope s__law_at, [], []⟩
theorem sc__law_at : FnScope ["tape", "k"] ["tape", "k"] (defScope s__law_at) := ⟨rfl, rfl, rfl, by decide +kernel, rfl, by decide +kernel, by decide +kernel⟩
abbrev s__law_write : Stmt := top 56
def d__law_write : He.DefD := ⟨("_law_write", none), "_law_write", "_law_write", defArgs s__law_write, defBody s__law_write, defScope s__law_write, [], []⟩
theorem sc__law_write : FnScope ["memory", "which", "number", "tag", "value"] ["memory", "which", "number", "tag"] (defScope s__law_write) := ⟨rfl, rfl, rfl, by decide +kernel, rfl, by decide +kernel, by decide +kernel⟩
abbrev s__law_read : Stmt := top 57
def d__law_read : He.DefD := ⟨("_law_read", none), "_law_read", "_law_read", defArgs s__law_read, defBody s__law_read, defScope s__law_read, [], []⟩
theorem sc__law_read : FnScope ["memory", "which", "number", "found", "value"] ["memory", "which", "number"] (defScope s__law_read) := ⟨rfl, rfl, rfl, by decide +kernel, rfl, by decide +kernel, by decide +kernel⟩
abbrev s__law_empty : Stmt := top 58
def d__law_empty : He.DefD := ⟨("_law_empty", none), "_law_empty", "_law_empty", defArgs s__law_empty, defBody s__law_empty, defScope s__law_empty, [], []⟩
theorem sc__law_empty : FnScope ["memory", "which", "index"] ["memory", "which"] (defScope s__law_empty) := ⟨rfl, rfl, rfl, by decide +kernel, rfl, by decide +kernel, by decide +kernel⟩
abbrev s_law : Stmt := top 59
def d_law : He.DefD := ⟨("law", none), "law", "law", defArgs s_law, defBody s_law, defScope s_law, [], []⟩
theorem sc_law : FnScope ["script", "tape", "which", "memory", "written", "read", "anew", "k", "number", "value", "found"] ["script"] (defScope s_law) := ⟨rfl, rfl, rfl, by decide +kernel, rfl, by decide +kernel, by decide +kernel⟩
structure Top (K : PySem.W.Frag) (mg : Str → Option Value) : Prop where
  b_ValueError : mg "ValueError" = none
  vei : PySem.W.findCls K (.type "ValueError") (.type "type") "__init__" = some (.val (.builtin "ValueError.__init__"))
  cf_RingError___init__ : ClsFn K (He.ga K "RingError") (.type "type") "__init__" (He.ma K (He.ga K "RingError") "__init__")
  g_RingError : mg "RingError" = some (.ref (He.ga K "RingError"))
  b_type : mg "type" = none
  b_int : mg "int" = none
  g_is_integer : mg "is_integer" = some (.ref (He.ga K "is_integer"))
  b_tuple : mg "tuple" = none
  b_str : mg "str" = none
  b_len : mg "len" = none
  g_is_number : mg "is_number" = some (.ref (He.ga K "is_number"))
  c_FRAMES : ∃ u, mg "FRAMES" = some u ∧ RelV (.int 6) u
  c_RIGHTS : ∃ u, mg "RIGHTS" = some u ∧ RelV (.ref (He.ga K "RIGHTS")) u
  b_sorted : mg "sorted" = none
  b_list : mg "list" = none
  c_CELLS : ∃ u, mg "CELLS" = some u ∧ RelV (.int 4) u
  g_frame_cell : mg "frame_cell" = some (.ref (He.ga K "frame_cell"))
  c_DEVICES : ∃ u, mg "DEVICES" = some u ∧ RelV (.int 2) u
  c_REGISTERS : ∃ u, mg "REGISTERS" = some u ∧ RelV (.int 4) u
  g_doorbell : mg "doorbell" = some (.ref (He.ga K "doorbell"))
  c_PAGES : ∃ u, mg "PAGES" = some u ∧ RelV (.int 6) u
  g_table_word : mg "table_word" = some (.ref (He.ga K "table_word"))
  g_acknowledge : mg "acknowledge" = some (.ref (He.ga K "acknowledge"))
  b_range : mg "range" = none
  c_RING_FRAMES : ∃ u, mg "RING_FRAMES" = some u ∧ RelV (.int 2) u
  g_is_value : mg "is_value" = some (.ref (He.ga K "is_value"))
  c_BLOCKS : ∃ u, mg "BLOCKS" = some u ∧ RelV (.int 8) u
  g_is_tuple_of_values : mg "is_tuple_of_values" = some (.ref (He.ga K "is_tuple_of_values"))
  c_FORMS : ∃ u, mg "FORMS" = some u ∧ RelV (.ref (He.ga K "FORMS")) u
  b_all : mg "all" = none
  b_zip : mg "zip" = none
  g_fits : mg "fits" = some (.ref (He.ga K "fits"))
  g_stands_in : mg "stands_in" = some (.ref (He.ga K "stands_in"))
  g_is_register : mg "is_register" = some (.ref (He.ga K "is_register"))
  g_is_table_word : mg "is_table_word" = some (.ref (He.ga K "is_table_word"))
  g_is_actor : mg "is_actor" = some (.ref (He.ga K "is_actor"))
  g_has_form : mg "has_form" = some (.ref (He.ga K "has_form"))
  g_may_reach : mg "may_reach" = some (.ref (He.ga K "may_reach"))
  g_is_word : mg "is_word" = some (.ref (He.ga K "is_word"))
  g_Guard : mg "Guard" = some (.ref (He.ga K "Guard"))
  mk_Guard : Mk K (He.ga K "Guard") (He.ma K (He.ga K "Guard") "__init__")
  g_first_cells : mg "first_cells" = some (.ref (He.ga K "first_cells"))
  g_is_allowed : mg "is_allowed" = some (.ref (He.ga K "is_allowed"))
  ex_NotValid : OexC K (He.ga K "NotValid")
  ini_NotValid : PySem.W.findIn K (.ref (He.ga K "NotValid")) "__init__" = some (some (.ref (He.ma K (He.ga K "NotValid") "__init__")))
  ity_NotValid : PySem.W.typeIn K (.ref (He.ma K (He.ga K "NotValid") "__init__")) = some (.type "function")
  g_NotValid : mg "NotValid" = some (.ref (He.ga K "NotValid"))
  cl_Memory : Cls K (He.ga K "Memory")
  me_Memory__result_of : Meth K (He.ga K "Memory") "_result_of" (He.ma K (He.ga K "Memory") "_result_of")
  me_Memory__dma_read : Meth K (He.ga K "Memory") "_dma_read" (He.ma K (He.ga K "Memory") "_dma_read")
  me_Memory__dma_write : Meth K (He.ga K "Memory") "_dma_write" (He.ma K (He.ga K "Memory") "_dma_write")
  cl_Guard : Cls K (He.ga K "Guard")
  me_Guard_command : Meth K (He.ga K "Guard") "command" (He.ma K (He.ga K "Guard") "command")
  me_Memory__drop : Meth K (He.ga K "Memory") "_drop" (He.ma K (He.ga K "Memory") "_drop")
  me_Guard_use : Meth K (He.ga K "Guard") "use" (He.ma K (He.ga K "Guard") "use")
  me_Memory__dma_cell : Meth K (He.ga K "Memory") "_dma_cell" (He.ma K (He.ga K "Memory") "_dma_cell")
  me_Guard_drop : Meth K (He.ga K "Guard") "drop" (He.ma K (He.ga K "Guard") "drop")
  c_SLOTS : ∃ u, mg "SLOTS" = some u ∧ RelV (.int 4) u
  c_TAGS : ∃ u, mg "TAGS" = some u ∧ RelV (.int 4) u
  g_is_tag : mg "is_tag" = some (.ref (He.ga K "is_tag"))
  c_KINDS : ∃ u, mg "KINDS" = some u ∧ RelV (.ref (He.ga K "KINDS")) u
  g_phase_of : mg "phase_of" = some (.ref (He.ga K "phase_of"))
  g_is_order : mg "is_order" = some (.ref (He.ga K "is_order"))
  g_is_entry_number : mg "is_entry_number" = some (.ref (He.ga K "is_entry_number"))
  c_DONE : ∃ u, mg "DONE" = some u ∧ RelV (.str "done") u
  g_has_phase : mg "has_phase" = some (.ref (He.ga K "has_phase"))
  c_PHASES : ∃ u, mg "PHASES" = some u ∧ RelV (.int 2) u
  g_is_completion : mg "is_completion" = some (.ref (He.ga K "is_completion"))
  b_abs : mg "abs" = none
  g_descriptor : mg "descriptor" = some (.ref (He.ga K "descriptor"))
  me_Memory_access : Meth K (He.ga K "Memory") "access" (He.ma K (He.ga K "Memory") "access")
  g_slot_of : mg "slot_of" = some (.ref (He.ga K "slot_of"))
  g_completion : mg "completion" = some (.ref (He.ga K "completion"))
  g_is_new_descriptor : mg "is_new_descriptor" = some (.ref (He.ga K "is_new_descriptor"))
  g_is_new_completion : mg "is_new_completion" = some (.ref (He.ga K "is_new_completion"))
  g__law_tape : mg "_law_tape" = some (.ref (He.ga K "_law_tape"))
  g__law_at : mg "_law_at" = some (.ref (He.ga K "_law_at"))
  g_Memory : mg "Memory" = some (.ref (He.ga K "Memory"))
  mk_Memory : Mk K (He.ga K "Memory") (He.ma K (He.ga K "Memory") "__init__")
  b_min : mg "min" = none
  b_max : mg "max" = none
  g__law_empty : mg "_law_empty" = some (.ref (He.ga K "_law_empty"))
  g__law_write : mg "_law_write" = some (.ref (He.ga K "_law_write"))
  g__law_read : mg "_law_read" = some (.ref (He.ga K "_law_read"))
  b_isinstance : mg "isinstance" = none
  b_bool : mg "bool" = none
  na_Guard__entries : NoAttr K (He.ga K "Guard") "_entries"
  na_Guard__queue : NoAttr K (He.ga K "Guard") "_queue"
  na_Guard__tickets : NoAttr K (He.ga K "Guard") "_tickets"
  na_Memory_count : NoAttr K (He.ga K "Memory") "count"
  na_Memory_guards : NoAttr K (He.ga K "Memory") "guards"
  na_Memory__cells : NoAttr K (He.ga K "Memory") "_cells"
  na_Memory__blocks : NoAttr K (He.ga K "Memory") "_blocks"
  na_Memory__journals : NoAttr K (He.ga K "Memory") "_journals"
  na_Memory__log : NoAttr K (He.ga K "Memory") "_log"
  xc_NotValid : ExcC K (He.ga K "NotValid")
  exm_NotValid_RingError_T : PySem.W.exmOne K (.ref (He.ga K "NotValid")) (.ref (He.ga K "RingError")) = some true
  kit_NotValid_NotValid_T : PySem.W.kitOne K (.ref (He.ga K "NotValid")) (.ref (He.ga K "NotValid")) = some true
  g_law : mg "law" = some (.ref (He.ga K "law"))
  t_RIGHTS : ∀ H : Hp, SqT K H (He.ga K "RIGHTS") [V.str "r", V.str "w"]
  fo_FORMS__read : Form K "FORMS" "read" ["driver", "device"] ["integer"]
  fo_FORMS__write : Form K "FORMS" "write" ["driver", "device"] ["integer", "value"]
  fo_FORMS__dma_read : Form K "FORMS" "dma read" ["device"] ["page", "index"]
  fo_FORMS__dma_write : Form K "FORMS" "dma write" ["device"] ["page", "index", "value"]
  fo_FORMS__command : Form K "FORMS" "command" ["driver"] ["page"]
  fo_FORMS__drop : Form K "FORMS" "drop" ["guard"] []
  fo_FORMS__fetch : Form K "FORMS" "fetch" ["device"] ["block", "integer", "integer"]
  fo_FORMS__commit : Form K "FORMS" "commit" ["device"] ["block", "values", "integer", "integer"]
  fo_FORMS__journal : Form K "FORMS" "journal" ["driver"] []
  fo_FORMS__tell : Form K "FORMS" "tell" ["device"] ["rows"]
  t_KINDS : ∀ H : Hp, SqT K H (He.ga K "KINDS") [V.str "read", V.str "write"]
  d_RingError___init__ : ∃ fd, FunD K "__init__" "RingError.__init__" (defArgs s_RingError___init__) (defBody s_RingError___init__) (defScope s_RingError___init__) [] [] (He.ma K (He.ga K "RingError") "__init__") fd
  d_NotValid___init__ : ∃ fd, FunD K "__init__" "NotValid.__init__" (defArgs s_NotValid___init__) (defBody s_NotValid___init__) (defScope s_NotValid___init__) [] [] (He.ma K (He.ga K "NotValid") "__init__") fd
  d_is_integer : ∃ fd, FunD K "is_integer" "is_integer" (defArgs s_is_integer) (defBody s_is_integer) (defScope s_is_integer) [] [] (He.ga K "is_integer") fd
  d_is_number : ∃ fd, FunD K "is_number" "is_number" (defArgs s_is_number) (defBody s_is_number) (defScope s_is_number) [] [] (He.ga K "is_number") fd
  d_is_value : ∃ fd, FunD K "is_value" "is_value" (defArgs s_is_value) (defBody s_is_value) (defScope s_is_value) [] [] (He.ga K "is_value") fd
  d_is_word : ∃ fd, FunD K "is_word" "is_word" (defArgs s_is_word) (defBody s_is_word) (defScope s_is_word) [] [] (He.ga K "is_word") fd
  d_Guard___init__ : ∃ fd, FunD K "__init__" "Guard.__init__" (defArgs s_Guard___init__) (defBody s_Guard___init__) (defScope s_Guard___init__) [] [] (He.ma K (He.ga K "Guard") "__init__") fd
  d_Guard_use : ∃ fd, FunD K "use" "Guard.use" (defArgs s_Guard_use) (defBody s_Guard_use) (defScope s_Guard_use) [] [] (He.ma K (He.ga K "Guard") "use") fd
  d_Guard_command : ∃ fd, FunD K "command" "Guard.command" (defArgs s_Guard_command) (defBody s_Guard_command) (defScope s_Guard_command) [] [] (He.ma K (He.ga K "Guard") "command") fd
  d_Guard_drop : ∃ fd, FunD K "drop" "Guard.drop" (defArgs s_Guard_drop) (defBody s_Guard_drop) (defScope s_Guard_drop) [] [] (He.ma K (He.ga K "Guard") "drop") fd
  d_Guard_entries : ∃ fd, FunD K "entries" "Guard.entries" (defArgs s_Guard_entries) (defBody s_Guard_entries) (defScope s_Guard_entries) [] [] (He.ma K (He.ga K "Guard") "entries") fd
  d_Guard_queue : ∃ fd, FunD K "queue" "Guard.queue" (defArgs s_Guard_queue) (defBody s_Guard_queue) (defScope s_Guard_queue) [] [] (He.ma K (He.ga K "Guard") "queue") fd
  d_frame_cell : ∃ fd, FunD K "frame_cell" "frame_cell" (defArgs s_frame_cell) (defBody s_frame_cell) (defScope s_frame_cell) [] [] (He.ga K "frame_cell") fd
  d_doorbell : ∃ fd, FunD K "doorbell" "doorbell" (defArgs s_doorbell) (defBody s_doorbell) (defScope s_doorbell) [] [] (He.ga K "doorbell") fd
  d_table_word : ∃ fd, FunD K "table_word" "table_word" (defArgs s_table_word) (defBody s_table_word) (defScope s_table_word) [] [] (He.ga K "table_word") fd
  d_acknowledge : ∃ fd, FunD K "acknowledge" "acknowledge" (defArgs s_acknowledge) (defBody s_acknowledge) (defScope s_acknowledge) [] [] (He.ga K "acknowledge") fd
  d_first_cells : ∃ fd, FunD K "first_cells" "first_cells" (defArgs s_first_cells) (defBody s_first_cells) (defScope s_first_cells) [] [] (He.ga K "first_cells") fd
  d_is_tuple_of_values : ∃ fd, FunD K "is_tuple_of_values" "is_tuple_of_values" (defArgs s_is_tuple_of_values) (defBody s_is_tuple_of_values) (defScope s_is_tuple_of_values) [] [] (He.ga K "is_tuple_of_values") fd
  d_fits : ∃ fd, FunD K "fits" "fits" (defArgs s_fits) (defBody s_fits) (defScope s_fits) [] [] (He.ga K "fits") fd
  d_is_actor : ∃ fd, FunD K "is_actor" "is_actor" (defArgs s_is_actor) (defBody s_is_actor) (defScope s_is_actor) [] [] (He.ga K "is_actor") fd
  d_has_form : ∃ fd, FunD K "has_form" "has_form" (defArgs s_has_form) (defBody s_has_form) (defScope s_has_form) [] [] (He.ga K "has_form") fd
  d_stands_in : ∃ fd, FunD K "stands_in" "stands_in" (defArgs s_stands_in) (defBody s_stands_in) (defScope s_stands_in) [] [] (He.ga K "stands_in") fd
  d_is_register : ∃ fd, FunD K "is_register" "is_register" (defArgs s_is_register) (defBody s_is_register) (defScope s_is_register) [] [] (He.ga K "is_register") fd
  d_is_table_word : ∃ fd, FunD K "is_table_word" "is_table_word" (defArgs s_is_table_word) (defBody s_is_table_word) (defScope s_is_table_word) [] [] (He.ga K "is_table_word") fd
  d_may_reach : ∃ fd, FunD K "may_reach" "may_reach" (defArgs s_may_reach) (defBody s_may_reach) (defScope s_may_reach) [] [] (He.ga K "may_reach") fd
  d_is_allowed : ∃ fd, FunD K "is_allowed" "is_allowed" (defArgs s_is_allowed) (defBody s_is_allowed) (defScope s_is_allowed) [] [] (He.ga K "is_allowed") fd
  d_Memory___init__ : ∃ fd, FunD K "__init__" "Memory.__init__" (defArgs s_Memory___init__) (defBody s_Memory___init__) (defScope s_Memory___init__) [] [] (He.ma K (He.ga K "Memory") "__init__") fd
  d_Memory_access : ∃ fd, FunD K "access" "Memory.access" (defArgs s_Memory_access) (defBody s_Memory_access) (defScope s_Memory_access) [] [] (He.ma K (He.ga K "Memory") "access") fd
  d_Memory_block : ∃ fd, FunD K "block" "Memory.block" (defArgs s_Memory_block) (defBody s_Memory_block) (defScope s_Memory_block) [] [] (He.ma K (He.ga K "Memory") "block") fd
  d_Memory_journal : ∃ fd, FunD K "journal" "Memory.journal" (defArgs s_Memory_journal) (defBody s_Memory_journal) (defScope s_Memory_journal) [] [] (He.ma K (He.ga K "Memory") "journal") fd
  d_Memory_log : ∃ fd, FunD K "log" "Memory.log" (defArgs s_Memory_log) (defBody s_Memory_log) (defScope s_Memory_log) [] [] (He.ma K (He.ga K "Memory") "log") fd
  d_Memory__result_of : ∃ fd, FunD K "_result_of" "Memory._result_of" (defArgs s_Memory__result_of) (defBody s_Memory__result_of) (defScope s_Memory__result_of) [] [] (He.ma K (He.ga K "Memory") "_result_of") fd
  d_Memory__dma_cell : ∃ fd, FunD K "_dma_cell" "Memory._dma_cell" (defArgs s_Memory__dma_cell) (defBody s_Memory__dma_cell) (defScope s_Memory__dma_cell) [] [] (He.ma K (He.ga K "Memory") "_dma_cell") fd
  d_Memory__dma_read : ∃ fd, FunD K "_dma_read" "Memory._dma_read" (defArgs s_Memory__dma_read) (defBody s_Memory__dma_read) (defScope s_Memory__dma_read) [] [] (He.ma K (He.ga K "Memory") "_dma_read") fd
  d_Memory__dma_write : ∃ fd, FunD K "_dma_write" "Memory._dma_write" (defArgs s_Memory__dma_write) (defBody s_Memory__dma_write) (defScope s_Memory__dma_write) [] [] (He.ma K (He.ga K "Memory") "_dma_write") fd
  d_Memory__drop : ∃ fd, FunD K "_drop" "Memory._drop" (defArgs s_Memory__drop) (defBody s_Memory__drop) (defScope s_Memory__drop) [] [] (He.ma K (He.ga K "Memory") "_drop") fd
  d_slot_of : ∃ fd, FunD K "slot_of" "slot_of" (defArgs s_slot_of) (defBody s_slot_of) (defScope s_slot_of) [] [] (He.ga K "slot_of") fd
  d_phase_of : ∃ fd, FunD K "phase_of" "phase_of" (defArgs s_phase_of) (defBody s_phase_of) (defScope s_phase_of) [] [] (He.ga K "phase_of") fd
  d_is_tag : ∃ fd, FunD K "is_tag" "is_tag" (defArgs s_is_tag) (defBody s_is_tag) (defScope s_is_tag) [] [] (He.ga K "is_tag") fd
  d_is_order : ∃ fd, FunD K "is_order" "is_order" (defArgs s_is_order) (defBody s_is_order) (defScope s_is_order) [] [] (He.ga K "is_order") fd
  d_is_entry_number : ∃ fd, FunD K "is_entry_number" "is_entry_number" (defArgs s_is_entry_number) (defBody s_is_entry_number) (defScope s_is_entry_number) [] [] (He.ga K "is_entry_number") fd
  d_has_phase : ∃ fd, FunD K "has_phase" "has_phase" (defArgs s_has_phase) (defBody s_has_phase) (defScope s_has_phase) [] [] (He.ga K "has_phase") fd
  d_descriptor : ∃ fd, FunD K "descriptor" "descriptor" (defArgs s_descriptor) (defBody s_descriptor) (defScope s_descriptor) [] [] (He.ga K "descriptor") fd
  d_completion : ∃ fd, FunD K "completion" "completion" (defArgs s_completion) (defBody s_completion) (defScope s_completion) [] [] (He.ga K "completion") fd
  d_is_new_descriptor : ∃ fd, FunD K "is_new_descriptor" "is_new_descriptor" (defArgs s_is_new_descriptor) (defBody s_is_new_descriptor) (defScope s_is_new_descriptor) [] [] (He.ga K "is_new_descriptor") fd
  d_is_completion : ∃ fd, FunD K "is_completion" "is_completion" (defArgs s_is_completion) (defBody s_is_completion) (defScope s_is_completion) [] [] (He.ga K "is_completion") fd
  d_is_new_completion : ∃ fd, FunD K "is_new_completion" "is_new_completion" (defArgs s_is_new_completion) (defBody s_is_new_completion) (defScope s_is_new_completion) [] [] (He.ga K "is_new_completion") fd
  d__law_tape : ∃ fd, FunD K "_law_tape" "_law_tape" (defArgs s__law_tape) (defBody s__law_tape) (defScope s__law_tape) [] [] (He.ga K "_law_tape") fd
  d__law_at : ∃ fd, FunD K "_law_at" "_law_at" (defArgs s__law_at) (defBody s__law_at) (defScope s__law_at) [] [] (He.ga K "_law_at") fd
  d__law_write : ∃ fd, FunD K "_law_write" "_law_write" (defArgs s__law_write) (defBody s__law_write) (defScope s__law_write) [] [] (He.ga K "_law_write") fd
  d__law_read : ∃ fd, FunD K "_law_read" "_law_read" (defArgs s__law_read) (defBody s__law_read) (defScope s__law_read) [] [] (He.ga K "_law_read") fd
  d__law_empty : ∃ fd, FunD K "_law_empty" "_law_empty" (defArgs s__law_empty) (defBody s__law_empty) (defScope s__law_empty) [] [] (He.ga K "_law_empty") fd
  d_law : ∃ fd, FunD K "law" "law" (defArgs s_law) (defBody s_law) (defScope s_law) [] [] (He.ga K "law") fd
def fa : List He.Fa := [.free "ValueError",
  .glo "RingError",
  .free "type",
  .free "int",
  .glo "is_integer",
  .free "tuple",
  .free "str",
  .free "len",
  .glo "is_number",
  .int "FRAMES" 6,
  .glo "RIGHTS",
  .free "sorted",
  .free "list",
  .int "CELLS" 4,
  .glo "frame_cell",
  .int "DEVICES" 2,
  .int "REGISTERS" 4,
  .glo "doorbell",
  .int "PAGES" 6,
  .glo "table_word",
  .glo "acknowledge",
  .free "range",
  .int "RING_FRAMES" 2,
  .glo "is_value",
  .int "BLOCKS" 8,
  .glo "is_tuple_of_values",
  .glo "FORMS",
  .free "all",
  .free "zip",
  .glo "fits",
  .glo "stands_in",
  .glo "is_register",
  .glo "is_table_word",
  .glo "is_actor",
  .glo "has_form",
  .glo "may_reach",
  .glo "is_word",
  .glo "Guard",
  .mkr "Guard",
  .glo "first_cells",
  .glo "is_allowed",
  .glo "NotValid",
  .cls "Memory",
  .meth "Memory" "_result_of",
  .meth "Memory" "_dma_read",
  .meth "Memory" "_dma_write",
  .cls "Guard",
  .meth "Guard" "command",
  .meth "Memory" "_drop",
  .meth "Guard" "use",
  .meth "Memory" "_dma_cell",
  .meth "Guard" "drop",
  .int "SLOTS" 4,
  .int "TAGS" 4,
  .glo "is_tag",
  .glo "KINDS",
  .glo "phase_of",
  .glo "is_order",
  .glo "is_entry_number",
  .str "DONE" "done",
  .glo "has_phase",
  .int "PHASES" 2,
  .glo "is_completion",
  .free "abs",
  .glo "descriptor",
  .meth "Memory" "access",
  .glo "slot_of",
  .glo "completion",
  .glo "is_new_descriptor",
  .glo "is_new_completion",
  .glo "_law_tape",
  .glo "_law_at",
  .glo "Memory",
  .mkr "Memory",
  .free "min",
  .free "max",
  .glo "_law_empty",
  .glo "_law_write",
  .glo "_law_read",
  .free "isinstance",
  .free "bool",
  .noat "Guard" "_entries",
  .noat "Guard" "_queue",
  .noat "Guard" "_tickets",
  .noat "Memory" "count",
  .noat "Memory" "guards",
  .noat "Memory" "_cells",
  .noat "Memory" "_blocks",
  .noat "Memory" "_journals",
  .noat "Memory" "_log",
  .exm "NotValid" "RingError" true,
  .glo "law"]
def exs : List Ex := [.vei,
  .clf "RingError" "__init__",
  .oex "NotValid",
  .ity "NotValid" "__init__",
  .exi "NotValid",
  .kit "NotValid" "NotValid" true,
  .tup "RIGHTS" [.str "r", .str "w"],
  .fact (formB "FORMS" "read" ["driver", "device"] ["integer"]),
  .fact (formB "FORMS" "write" ["driver", "device"] ["integer", "value"]),
  .fact (formB "FORMS" "dma read" ["device"] ["page", "index"]),
  .fact (formB "FORMS" "dma write" ["device"] ["page", "index", "value"]),
  .fact (formB "FORMS" "command" ["driver"] ["page"]),
  .fact (formB "FORMS" "drop" ["guard"] []),
  .fact (formB "FORMS" "fetch" ["device"] ["block", "integer", "integer"]),
  .fact (formB "FORMS" "commit" ["device"] ["block", "values", "integer", "integer"]),
  .fact (formB "FORMS" "journal" ["driver"] []),
  .fact (formB "FORMS" "tell" ["device"] ["rows"]),
  .tup "KINDS" [.str "read", .str "write"]]
def fn : List He.DefD := [d_RingError___init__,
  d_NotValid___init__,
  d_is_integer,
  d_is_number,
  d_is_value,
  d_is_word,
  d_Guard___init__,
  d_Guard_use,
  d_Guard_command,
  d_Guard_drop,
  d_Guard_entries,
  d_Guard_queue,
  d_frame_cell,
  d_doorbell,
  d_table_word,
  d_acknowledge,
  d_first_cells,
  d_is_tuple_of_values,
  d_fits,
  d_is_actor,
  d_has_form,
  d_stands_in,
  d_is_register,
  d_is_table_word,
  d_may_reach,
  d_is_allowed,
  d_Memory___init__,
  d_Memory_access,
  d_Memory_block,
  d_Memory_journal,
  d_Memory_log,
  d_Memory__result_of,
  d_Memory__dma_cell,
  d_Memory__dma_read,
  d_Memory__dma_write,
  d_Memory__drop,
  d_slot_of,
  d_phase_of,
  d_is_tag,
  d_is_order,
  d_is_entry_number,
  d_has_phase,
  d_descriptor,
  d_completion,
  d_is_new_descriptor,
  d_is_completion,
  d_is_new_completion,
  d__law_tape,
  d__law_at,
  d__law_write,
  d__law_read,
  d__law_empty,
  d_law]
def ts : List He.Tab := [(fun K => He.ga K "FORMS", ["read", "write", "dma read", "dma write", "command", "drop", "fetch", "commit", "journal", "tell"])]
theorem tab_FORMS {w : World} {K : PySem.W.Frag} (c : SaysR fa fn ts exs w K) : ∃ es n, KDict K w (He.ga K "FORMS") es n := c.t.tab 0
theorem top_of {w : World} {h : Heap} {K : PySem.W.Frag} {mg : Str → Option Value} (X : K.In h) (G : h.Ns mainGlobals mg) (c : SaysR fa fn ts exs w K) : Top K mg where
  b_ValueError := He.free_ok X G (c.t.d.fact 0 (f := .free "ValueError") rfl)
  vei := vei_ok (ex_at c 0 (f := .vei) rfl)
  cf_RingError___init__ := clf_ok (ex_at c 1 (f := .clf "RingError" "__init__") rfl)
  g_RingError := He.glo_ok X G (c.t.d.fact 1 (f := .glo "RingError") rfl)
  b_type := He.free_ok X G (c.t.d.fact 2 (f := .free "type") rfl)
  b_int := He.free_ok X G (c.t.d.fact 3 (f := .free "int") rfl)
  g_is_integer := He.glo_ok X G (c.t.d.fact 4 (f := .glo "is_integer") rfl)
  b_tuple := He.free_ok X G (c.t.d.fact 5 (f := .free "tuple") rfl)
  b_str := He.free_ok X G (c.t.d.fact 6 (f := .free "str") rfl)
  b_len := He.free_ok X G (c.t.d.fact 7 (f := .free "len") rfl)
  g_is_number := He.glo_ok X G (c.t.d.fact 8 (f := .glo "is_number") rfl)
  c_FRAMES := int_at X G (c.t.d.fact 9 (f := .int "FRAMES" 6) rfl)
  c_RIGHTS := ⟨_, He.glo_ok X G (c.t.d.fact 10 (f := .glo "RIGHTS") rfl), rfl⟩
  b_sorted := He.free_ok X G (c.t.d.fact 11 (f := .free "sorted") rfl)
  b_list := He.free_ok X G (c.t.d.fact 12 (f := .free "list") rfl)
  c_CELLS := int_at X G (c.t.d.fact 13 (f := .int "CELLS" 4) rfl)
  g_frame_cell := He.glo_ok X G (c.t.d.fact 14 (f := .glo "frame_cell") rfl)
  c_DEVICES := int_at X G (c.t.d.fact 15 (f := .int "DEVICES" 2) rfl)
  c_REGISTERS := int_at X G (c.t.d.fact 16 (f := .int "REGISTERS" 4) rfl)
  g_doorbell := He.glo_ok X G (c.t.d.fact 17 (f := .glo "doorbell") rfl)
  c_PAGES := int_at X G (c.t.d.fact 18 (f := .int "PAGES" 6) rfl)
  g_table_word := He.glo_ok X G (c.t.d.fact 19 (f := .glo "table_word") rfl)
  g_acknowledge := He.glo_ok X G (c.t.d.fact 20 (f := .glo "acknowledge") rfl)
  b_range := He.free_ok X G (c.t.d.fact 21 (f := .free "range") rfl)
  c_RING_FRAMES := int_at X G (c.t.d.fact 22 (f := .int "RING_FRAMES" 2) rfl)
  g_is_value := He.glo_ok X G (c.t.d.fact 23 (f := .glo "is_value") rfl)
  c_BLOCKS := int_at X G (c.t.d.fact 24 (f := .int "BLOCKS" 8) rfl)
  g_is_tuple_of_values := He.glo_ok X G (c.t.d.fact 25 (f := .glo "is_tuple_of_values") rfl)
  c_FORMS := ⟨_, He.glo_ok X G (c.t.d.fact 26 (f := .glo "FORMS") rfl), rfl⟩
  b_all := He.free_ok X G (c.t.d.fact 27 (f := .free "all") rfl)
  b_zip := He.free_ok X G (c.t.d.fact 28 (f := .free "zip") rfl)
  g_fits := He.glo_ok X G (c.t.d.fact 29 (f := .glo "fits") rfl)
  g_stands_in := He.glo_ok X G (c.t.d.fact 30 (f := .glo "stands_in") rfl)
  g_is_register := He.glo_ok X G (c.t.d.fact 31 (f := .glo "is_register") rfl)
  g_is_table_word := He.glo_ok X G (c.t.d.fact 32 (f := .glo "is_table_word") rfl)
  g_is_actor := He.glo_ok X G (c.t.d.fact 33 (f := .glo "is_actor") rfl)
  g_has_form := He.glo_ok X G (c.t.d.fact 34 (f := .glo "has_form") rfl)
  g_may_reach := He.glo_ok X G (c.t.d.fact 35 (f := .glo "may_reach") rfl)
  g_is_word := He.glo_ok X G (c.t.d.fact 36 (f := .glo "is_word") rfl)
  g_Guard := He.glo_ok X G (c.t.d.fact 37 (f := .glo "Guard") rfl)
  mk_Guard := He.mkr_ok (c.t.d.fact 38 (f := .mkr "Guard") rfl)
  g_first_cells := He.glo_ok X G (c.t.d.fact 39 (f := .glo "first_cells") rfl)
  g_is_allowed := He.glo_ok X G (c.t.d.fact 40 (f := .glo "is_allowed") rfl)
  ex_NotValid := oex_ok (ex_at c 2 (f := .oex "NotValid") rfl)
  ini_NotValid := (ity_ok (ex_at c 3 (f := .ity "NotValid" "__init__") rfl)).1
  ity_NotValid := (ity_ok (ex_at c 3 (f := .ity "NotValid" "__init__") rfl)).2
  g_NotValid := He.glo_ok X G (c.t.d.fact 41 (f := .glo "NotValid") rfl)
  cl_Memory := He.cls_ok (c.t.d.fact 42 (f := .cls "Memory") rfl)
  me_Memory__result_of := He.meth_ok (c.t.d.fact 43 (f := .meth "Memory" "_result_of") rfl)
  me_Memory__dma_read := He.meth_ok (c.t.d.fact 44 (f := .meth "Memory" "_dma_read") rfl)
  me_Memory__dma_write := He.meth_ok (c.t.d.fact 45 (f := .meth "Memory" "_dma_write") rfl)
  cl_Guard := He.cls_ok (c.t.d.fact 46 (f := .cls "Guard") rfl)
  me_Guard_command := He.meth_ok (c.t.d.fact 47 (f := .meth "Guard" "command") rfl)
  me_Memory__drop := He.meth_ok (c.t.d.fact 48 (f := .meth "Memory" "_drop") rfl)
  me_Guard_use := He.meth_ok (c.t.d.fact 49 (f := .meth "Guard" "use") rfl)
  me_Memory__dma_cell := He.meth_ok (c.t.d.fact 50 (f := .meth "Memory" "_dma_cell") rfl)
  me_Guard_drop := He.meth_ok (c.t.d.fact 51 (f := .meth "Guard" "drop") rfl)
  c_SLOTS := int_at X G (c.t.d.fact 52 (f := .int "SLOTS" 4) rfl)
  c_TAGS := int_at X G (c.t.d.fact 53 (f := .int "TAGS" 4) rfl)
  g_is_tag := He.glo_ok X G (c.t.d.fact 54 (f := .glo "is_tag") rfl)
  c_KINDS := ⟨_, He.glo_ok X G (c.t.d.fact 55 (f := .glo "KINDS") rfl), rfl⟩
  g_phase_of := He.glo_ok X G (c.t.d.fact 56 (f := .glo "phase_of") rfl)
  g_is_order := He.glo_ok X G (c.t.d.fact 57 (f := .glo "is_order") rfl)
  g_is_entry_number := He.glo_ok X G (c.t.d.fact 58 (f := .glo "is_entry_number") rfl)
  c_DONE := str_at X G (c.t.d.fact 59 (f := .str "DONE" "done") rfl)
  g_has_phase := He.glo_ok X G (c.t.d.fact 60 (f := .glo "has_phase") rfl)
  c_PHASES := int_at X G (c.t.d.fact 61 (f := .int "PHASES" 2) rfl)
  g_is_completion := He.glo_ok X G (c.t.d.fact 62 (f := .glo "is_completion") rfl)
  b_abs := He.free_ok X G (c.t.d.fact 63 (f := .free "abs") rfl)
  g_descriptor := He.glo_ok X G (c.t.d.fact 64 (f := .glo "descriptor") rfl)
  me_Memory_access := He.meth_ok (c.t.d.fact 65 (f := .meth "Memory" "access") rfl)
  g_slot_of := He.glo_ok X G (c.t.d.fact 66 (f := .glo "slot_of") rfl)
  g_completion := He.glo_ok X G (c.t.d.fact 67 (f := .glo "completion") rfl)
  g_is_new_descriptor := He.glo_ok X G (c.t.d.fact 68 (f := .glo "is_new_descriptor") rfl)
  g_is_new_completion := He.glo_ok X G (c.t.d.fact 69 (f := .glo "is_new_completion") rfl)
  g__law_tape := He.glo_ok X G (c.t.d.fact 70 (f := .glo "_law_tape") rfl)
  g__law_at := He.glo_ok X G (c.t.d.fact 71 (f := .glo "_law_at") rfl)
  g_Memory := He.glo_ok X G (c.t.d.fact 72 (f := .glo "Memory") rfl)
  mk_Memory := He.mkr_ok (c.t.d.fact 73 (f := .mkr "Memory") rfl)
  b_min := He.free_ok X G (c.t.d.fact 74 (f := .free "min") rfl)
  b_max := He.free_ok X G (c.t.d.fact 75 (f := .free "max") rfl)
  g__law_empty := He.glo_ok X G (c.t.d.fact 76 (f := .glo "_law_empty") rfl)
  g__law_write := He.glo_ok X G (c.t.d.fact 77 (f := .glo "_law_write") rfl)
  g__law_read := He.glo_ok X G (c.t.d.fact 78 (f := .glo "_law_read") rfl)
  b_isinstance := He.free_ok X G (c.t.d.fact 79 (f := .free "isinstance") rfl)
  b_bool := He.free_ok X G (c.t.d.fact 80 (f := .free "bool") rfl)
  na_Guard__entries := He.noat_ok (c.t.d.fact 81 (f := .noat "Guard" "_entries") rfl)
  na_Guard__queue := He.noat_ok (c.t.d.fact 82 (f := .noat "Guard" "_queue") rfl)
  na_Guard__tickets := He.noat_ok (c.t.d.fact 83 (f := .noat "Guard" "_tickets") rfl)
  na_Memory_count := He.noat_ok (c.t.d.fact 84 (f := .noat "Memory" "count") rfl)
  na_Memory_guards := He.noat_ok (c.t.d.fact 85 (f := .noat "Memory" "guards") rfl)
  na_Memory__cells := He.noat_ok (c.t.d.fact 86 (f := .noat "Memory" "_cells") rfl)
  na_Memory__blocks := He.noat_ok (c.t.d.fact 87 (f := .noat "Memory" "_blocks") rfl)
  na_Memory__journals := He.noat_ok (c.t.d.fact 88 (f := .noat "Memory" "_journals") rfl)
  na_Memory__log := He.noat_ok (c.t.d.fact 89 (f := .noat "Memory" "_log") rfl)
  xc_NotValid := exi_ok (ex_at c 4 (f := .exi "NotValid") rfl)
  exm_NotValid_RingError_T := He.exm_ok (c.t.d.fact 90 (f := .exm "NotValid" "RingError" true) rfl)
  kit_NotValid_NotValid_T := kit_ok (ex_at c 5 (f := .kit "NotValid" "NotValid" true) rfl)
  g_law := He.glo_ok X G (c.t.d.fact 91 (f := .glo "law") rfl)
  t_RIGHTS := tup_ok (ex_at c 6 (f := .tup "RIGHTS" [.str "r", .str "w"]) rfl)
  fo_FORMS__read := form_ok (ex_at c 7 (f := .fact (formB "FORMS" "read" ["driver", "device"] ["integer"])) rfl)
  fo_FORMS__write := form_ok (ex_at c 8 (f := .fact (formB "FORMS" "write" ["driver", "device"] ["integer", "value"])) rfl)
  fo_FORMS__dma_read := form_ok (ex_at c 9 (f := .fact (formB "FORMS" "dma read" ["device"] ["page", "index"])) rfl)
  fo_FORMS__dma_write := form_ok (ex_at c 10 (f := .fact (formB "FORMS" "dma write" ["device"] ["page", "index", "value"])) rfl)
  fo_FORMS__command := form_ok (ex_at c 11 (f := .fact (formB "FORMS" "command" ["driver"] ["page"])) rfl)
  fo_FORMS__drop := form_ok (ex_at c 12 (f := .fact (formB "FORMS" "drop" ["guard"] [])) rfl)
  fo_FORMS__fetch := form_ok (ex_at c 13 (f := .fact (formB "FORMS" "fetch" ["device"] ["block", "integer", "integer"])) rfl)
  fo_FORMS__commit := form_ok (ex_at c 14 (f := .fact (formB "FORMS" "commit" ["device"] ["block", "values", "integer", "integer"])) rfl)
  fo_FORMS__journal := form_ok (ex_at c 15 (f := .fact (formB "FORMS" "journal" ["driver"] [])) rfl)
  fo_FORMS__tell := form_ok (ex_at c 16 (f := .fact (formB "FORMS" "tell" ["device"] ["rows"])) rfl)
  t_KINDS := tup_ok (ex_at c 17 (f := .tup "KINDS" [.str "read", .str "write"]) rfl)
  d_RingError___init__ := c.t.d.def_ 0 (d := d_RingError___init__) rfl
  d_NotValid___init__ := c.t.d.def_ 1 (d := d_NotValid___init__) rfl
  d_is_integer := c.t.d.def_ 2 (d := d_is_integer) rfl
  d_is_number := c.t.d.def_ 3 (d := d_is_number) rfl
  d_is_value := c.t.d.def_ 4 (d := d_is_value) rfl
  d_is_word := c.t.d.def_ 5 (d := d_is_word) rfl
  d_Guard___init__ := c.t.d.def_ 6 (d := d_Guard___init__) rfl
  d_Guard_use := c.t.d.def_ 7 (d := d_Guard_use) rfl
  d_Guard_command := c.t.d.def_ 8 (d := d_Guard_command) rfl
  d_Guard_drop := c.t.d.def_ 9 (d := d_Guard_drop) rfl
  d_Guard_entries := c.t.d.def_ 10 (d := d_Guard_entries) rfl
  d_Guard_queue := c.t.d.def_ 11 (d := d_Guard_queue) rfl
  d_frame_cell := c.t.d.def_ 12 (d := d_frame_cell) rfl
  d_doorbell := c.t.d.def_ 13 (d := d_doorbell) rfl
  d_table_word := c.t.d.def_ 14 (d := d_table_word) rfl
  d_acknowledge := c.t.d.def_ 15 (d := d_acknowledge) rfl
  d_first_cells := c.t.d.def_ 16 (d := d_first_cells) rfl
  d_is_tuple_of_values := c.t.d.def_ 17 (d := d_is_tuple_of_values) rfl
  d_fits := c.t.d.def_ 18 (d := d_fits) rfl
  d_is_actor := c.t.d.def_ 19 (d := d_is_actor) rfl
  d_has_form := c.t.d.def_ 20 (d := d_has_form) rfl
  d_stands_in := c.t.d.def_ 21 (d := d_stands_in) rfl
  d_is_register := c.t.d.def_ 22 (d := d_is_register) rfl
  d_is_table_word := c.t.d.def_ 23 (d := d_is_table_word) rfl
  d_may_reach := c.t.d.def_ 24 (d := d_may_reach) rfl
  d_is_allowed := c.t.d.def_ 25 (d := d_is_allowed) rfl
  d_Memory___init__ := c.t.d.def_ 26 (d := d_Memory___init__) rfl
  d_Memory_access := c.t.d.def_ 27 (d := d_Memory_access) rfl
  d_Memory_block := c.t.d.def_ 28 (d := d_Memory_block) rfl
  d_Memory_journal := c.t.d.def_ 29 (d := d_Memory_journal) rfl
  d_Memory_log := c.t.d.def_ 30 (d := d_Memory_log) rfl
  d_Memory__result_of := c.t.d.def_ 31 (d := d_Memory__result_of) rfl
  d_Memory__dma_cell := c.t.d.def_ 32 (d := d_Memory__dma_cell) rfl
  d_Memory__dma_read := c.t.d.def_ 33 (d := d_Memory__dma_read) rfl
  d_Memory__dma_write := c.t.d.def_ 34 (d := d_Memory__dma_write) rfl
  d_Memory__drop := c.t.d.def_ 35 (d := d_Memory__drop) rfl
  d_slot_of := c.t.d.def_ 36 (d := d_slot_of) rfl
  d_phase_of := c.t.d.def_ 37 (d := d_phase_of) rfl
  d_is_tag := c.t.d.def_ 38 (d := d_is_tag) rfl
  d_is_order := c.t.d.def_ 39 (d := d_is_order) rfl
  d_is_entry_number := c.t.d.def_ 40 (d := d_is_entry_number) rfl
  d_has_phase := c.t.d.def_ 41 (d := d_has_phase) rfl
  d_descriptor := c.t.d.def_ 42 (d := d_descriptor) rfl
  d_completion := c.t.d.def_ 43 (d := d_completion) rfl
  d_is_new_descriptor := c.t.d.def_ 44 (d := d_is_new_descriptor) rfl
  d_is_completion := c.t.d.def_ 45 (d := d_is_completion) rfl
  d_is_new_completion := c.t.d.def_ 46 (d := d_is_new_completion) rfl
  d__law_tape := c.t.d.def_ 47 (d := d__law_tape) rfl
  d__law_at := c.t.d.def_ 48 (d := d__law_at) rfl
  d__law_write := c.t.d.def_ 49 (d := d__law_write) rfl
  d__law_read := c.t.d.def_ 50 (d := d__law_read) rfl
  d__law_empty := c.t.d.def_ 51 (d := d__law_empty) rfl
  d_law := c.t.d.def_ 52 (d := d_law) rfl
def loose : List Str := (["_wall", "RingError", "NotValid", "is_integer", "is_number", "is_value", "DEVICES", "PAGES", "FRAMES", "CELLS", "RIGHTS", "is_word", "Guard", "BLOCKS", "RING_FRAMES", "REGISTERS", "FORMS", "frame_cell", "doorbell", "table_word", "acknowledge", "first_cells", "is_tuple_of_values", "fits", "is_actor", "has_form", "stands_in", "is_register", "is_table_word", "may_reach"] : List Str) ++ (["is_allowed", "Memory", "SLOTS", "TAGS", "KINDS", "DONE", "PHASES", "slot_of", "phase_of", "is_tag", "is_order", "is_entry_number", "has_phase", "descriptor", "completion", "is_new_descriptor", "is_completion", "is_new_completion", "_law_tape", "_law_at", "_law_write", "_law_read", "_law_empty"] : List Str)
abbrev lawAt : Nat := 59
end Rb
namespace Rb
open PySem PySem.Spec PyProof.Rows L2
section
variable {P : Program} {w : World} {K : PySem.W.Frag} {mg : Str → Option Value} {base : Heap}
def spVeI (K : PySem.W.Frag) : Sp := fun vs H Q _ => ∃ (a C : Addr), vs = [.ref a] ∧ OexC K C ∧ H a = some (exo a C none) ∧ Q .non H
theorem ok_RingError_init (T : Top K mg) : FnC P w K mg base CX0 1 (He.ma K (He.ga K "RingError") "__init__") (spVeI K) := by
  refine fnc0 T.d_RingError___init__ sc_RingError___init__ (fun _ _ _ _ _ _ us hl => match us, hl with | [_], _ => rfl) (fun vs H Q E h => ?_) (fun cdv A outer s H vs Q E hr h => ?_)
  · obtain ⟨a, C, rfl, _⟩ := h
    rfl
  · obtain ⟨a, C, rfl, o, e, k⟩ := h
    refine ⟨_, (pss_one (ps_expr (pe_veinit (by rfl) T.b_ValueError T.vei (pa_cons (pv 0) pa_nil)))), ?_⟩
    exact ⟨_, rfl, a, C, [], rfl, Nat.zero_le _, o, e, k⟩
theorem ok_NotValid_init (T : Top K mg) : FnC P w K mg base CX0 2 (He.ma K (He.ga K "NotValid") "__init__") (spVeI K) := by
  have G_RingError___init__ := ok_RingError_init (P := P) (w := w) (base := base) T
  refine fnc0 T.d_NotValid___init__ sc_NotValid___init__ (fun _ _ _ _ _ _ us hl => match us, hl with | [_], _ => rfl) (fun vs H Q E h => ?_) (fun cdv A outer s H vs Q E hr h => ?_)
  · obtain ⟨a, C, rfl, _⟩ := h
    rfl
  · obtain ⟨a, C, rfl, o, e, k⟩ := h
    refine ⟨_, (pss_one (ps_expr (pe_cls T.cf_RingError___init__ G_RingError___init__ hr (by decide) (by rfl) T.g_RingError pass0 (pa_cons (pv 0) pa_nil)))), ?_⟩
    exact ⟨_, rfl, a, C, rfl, o, e, k⟩
def spIsInt (K : PySem.W.Frag) : Sp := fun vs H Q _ => ∃ (v : V) (N : String), vs = [v] ∧ TyB K H v N ∧ Q (.bl (decide (N = "int"))) H
theorem ok_is_integer (T : Top K mg) : FnC P w K mg base CX0 1 (He.ga K "is_integer") (spIsInt K) := by
  refine fnc0 T.d_is_integer sc_is_integer (fun _ _ _ _ _ _ us hl => match us, hl with | [_], _ => rfl) (fun vs H Q E h => ?_) (fun cdv A outer s H vs Q E hr h => ?_)
  · obtain ⟨v, N, rfl, _⟩ := h
    rfl
  · obtain ⟨v, N, rfl, hN, k⟩ := h
    refine ⟨_, (pss_one (ps_ret (pe_cmpR op_isTyB (pe_callTy call_type1 (by rfl) T.b_type (by decide +kernel) (pa_cons (pv 0) pa_nil)) (pe_bltn (v := .ty "int") (by rfl) T.b_int (by decide +kernel) rfl) (nomark _)))), ?_⟩
    exact ⟨_, rfl, _, N, rfl, hN, _, _, rfl, rfl, k⟩
def isNum : V → Int → Bool
  | .int i, l => decide (0 ≤ i) && decide (i < l)
  | _, _ => false
def spIsNum (K : PySem.W.Frag) : Sp := fun vs H Q _ => ∃ (v : V) (N : String) (l : Int), vs = [v, .int l] ∧ TyB K H v N ∧ Q (.bl (isNum v l)) H
theorem ok_is_number (T : Top K mg) : FnC P w K mg base CX0 2 (He.ga K "is_number") (spIsNum K) := by
  have G_is_integer := ok_is_integer (P := P) (w := w) (base := base) T
  refine fnc0 T.d_is_number sc_is_number (fun _ _ _ _ _ _ us hl => match us, hl with | [_, _], _ => rfl) (fun vs H Q E h => ?_) (fun cdv A outer s H vs Q E hr h => ?_)
  · obtain ⟨v, N, l, rfl, _⟩ := h
    rfl
  · obtain ⟨v, N, l, rfl, hN, k⟩ := h
    refine ⟨_, (pss_one (ps_ret (pe_and (pe_f G_is_integer hr (by decide) (by rfl) T.g_is_integer pass0 (pa_cons (pv 0) pa_nil)) (pe_one (pe_chain op_le op_lt pe_int (pv 0) (pv 1)))))), ?_⟩
    refine ⟨_, rfl, _, N, rfl, hN, _, rfl, ?_⟩
    cases hN with
    | int i =>
      refine ⟨_, rfl, _, _, rfl, rfl, _, rfl, ?_⟩
      show if decide ((0 : Int) ≤ i) = true then _ else _
      by_cases c : (0 : Int) ≤ i
      · rw [decide_eq_true c]
        refine ⟨_, rfl, _, _, rfl, rfl, ?_⟩
        have e : isNum (.int i) l = decide (i < l) := by
          show (decide (0 ≤ i) && decide (i < l)) = _
          rw [decide_eq_true c, Bool.true_and]
        rw [e] at k
        exact k
      · rw [decide_eq_false c]
        have e : isNum (.int i) l = false := by
          show (decide (0 ≤ i) && decide (i < l)) = _
          rw [decide_eq_false c, Bool.false_and]
        rw [e] at k
        exact k
    | _ => exact k
end
end Rb
namespace Rb
open PySem PySem.Spec PyProof.Rows L2
section
variable {P : Program} {w : World} {K : PySem.W.Frag} {mg : Str → Option Value} {base : Heap}
/-! ### the numbers of the cells -/
def fcell (d f i : Int) : Int := (d * 6 + f) * 4 + i
def sp3 (g : Int → Int → Int → Int) : Sp := fun vs H Q _ => ∃ a b c : Int, vs = [.int a, .int b, .int c] ∧ Q (.int (g a b c)) H
def sp2 (g : Int → Int → Int) : Sp := fun vs H Q _ => ∃ a b : Int, vs = [.int a, .int b] ∧ Q (.int (g a b)) H
def sp1 (g : Int → Int) : Sp := fun vs H Q _ => ∃ a : Int, vs = [.int a] ∧ Q (.int (g a)) H
theorem ok_frame_cell (T : Top K mg) : FnC P w K mg base CX0 1 (He.ga K "frame_cell") (sp3 fcell) := by
  refine fnc0 T.d_frame_cell sc_frame_cell (fun _ _ _ _ _ _ us hl => match us, hl with | [_, _, _], _ => rfl) (fun vs H Q E h => ?_) (fun cdv A outer s H vs Q E hr h => ?_)
  · obtain ⟨a, b, c, rfl, _⟩ := h
    rfl
  · obtain ⟨a, b, c, rfl, k⟩ := h
    refine ⟨_, (pss_one (ps_ret (pe_op op_add (pe_op op_mul (pe_op op_add (pe_op op_mul (pv 0) (pe_gc (by rfl) T.c_FRAMES)) (pv 1)) (pe_gc (by rfl) T.c_CELLS)) (pv 2)))), ?_⟩
    exact ⟨_, rfl, _, _, rfl, rfl, .inr ⟨by decide, by decide⟩, _, rfl, _, _, rfl, rfl, _, _, rfl, rfl, .inr ⟨by decide, by decide⟩, _, rfl, _, _, rfl, rfl, k⟩
def dbell (d : Int) : Int := 48 + d * 4
theorem ok_doorbell (T : Top K mg) : FnC P w K mg base CX0 2 (He.ga K "doorbell") (sp1 dbell) := by
  have G_frame_cell := ok_frame_cell (P := P) (w := w) (base := base) T
  refine fnc0 T.d_doorbell sc_doorbell (fun _ _ _ _ _ _ us hl => match us, hl with | [_], _ => rfl) (fun vs H Q E h => ?_) (fun cdv A outer s H vs Q E hr h => ?_)
  · obtain ⟨a, rfl, _⟩ := h
    rfl
  · obtain ⟨a, rfl, k⟩ := h
    refine ⟨_, (pss_one (ps_ret (pe_op op_add (pe_f G_frame_cell hr (by decide) (by rfl) T.g_frame_cell pass0 (pa_cons (pe_gc (by rfl) T.c_DEVICES) (pa_cons pe_int (pa_cons pe_int pa_nil)))) (pe_op op_mul (pv 0) (pe_gc (by rfl) T.c_REGISTERS))))), ?_⟩
    exact ⟨_, _, _, rfl, _, rfl, _, _, rfl, rfl, .inr ⟨by decide, by decide⟩, _, _, rfl, rfl, k⟩
def tword (d p : Int) : Int := 56 + d * 6 + p
theorem ok_table_word (T : Top K mg) : FnC P w K mg base CX0 3 (He.ga K "table_word") (sp2 tword) := by
  have G_doorbell := ok_doorbell (P := P) (w := w) (base := base) T
  refine fnc0 T.d_table_word sc_table_word (fun _ _ _ _ _ _ us hl => match us, hl with | [_, _], _ => rfl) (fun vs H Q E h => ?_) (fun cdv A outer s H vs Q E hr h => ?_)
  · obtain ⟨a, b, rfl, _⟩ := h
    rfl
  · obtain ⟨a, b, rfl, k⟩ := h
    refine ⟨_, (pss_one (ps_ret (pe_op op_add (pe_op op_add (pe_f G_doorbell hr (by decide) (by rfl) T.g_doorbell pass0 (pa_cons (pe_gc (by rfl) T.c_DEVICES) pa_nil)) (pe_op op_mul (pv 0) (pe_gc (by rfl) T.c_PAGES))) (pv 1)))), ?_⟩
    exact ⟨_, rfl, _, rfl, _, _, rfl, rfl, .inr ⟨by decide, by decide⟩, _, _, rfl, rfl, _, rfl, _, _, rfl, rfl, k⟩
def ackw (d : Int) : Int := 68 + d
theorem ok_acknowledge (T : Top K mg) : FnC P w K mg base CX0 4 (He.ga K "acknowledge") (sp1 ackw) := by
  have G_table_word := ok_table_word (P := P) (w := w) (base := base) T
  refine fnc0 T.d_acknowledge sc_acknowledge (fun _ _ _ _ _ _ us hl => match us, hl with | [_], _ => rfl) (fun vs H Q E h => ?_) (fun cdv A outer s H vs Q E hr h => ?_)
  · obtain ⟨a, rfl, _⟩ := h
    rfl
  · obtain ⟨a, rfl, k⟩ := h
    refine ⟨_, (pss_one (ps_ret (pe_op op_add (pe_f G_table_word hr (by decide) (by rfl) T.g_table_word pass0 (pa_cons (pe_gc (by rfl) T.c_DEVICES) (pa_cons pe_int pa_nil))) (pv 0)))), ?_⟩
    exact ⟨_, _, rfl, _, rfl, _, _, rfl, rfl, k⟩
end
end Rb
namespace Rb
open PySem PySem.Spec PyProof.Rows L2
/-! ### the first cells -/
def fcI (xs : List V) (d f : Int) : Nat → List V
  | 0 => xs
  | j + 1 => (fcI xs d f j).set (fcell d f (0 + (j : Int))).toNat .non
def fcF (xs : List V) (d : Int) : Nat → List V
  | 0 => xs
  | f + 1 => fcI (fcF xs d f) d (0 + (f : Int)) 4
def fcP (xs : List V) (d : Int) : Nat → List V
  | 0 => xs
  | p + 1 => (fcP xs d p).set (tword d (0 + (p : Int))).toNat .non
def fcD : Nat → List V
  | 0 => List.replicate 70 (.int 0)
  | d + 1 => fcP (fcF (fcD d) (0 + (d : Int)) 2) (0 + (d : Int)) 6
/-- the cells of a new memory -/
def cells0 : List V := fcD 2
theorem fcI_len {xs : List V} {d f : Int} : ∀ n, (fcI xs d f n).length = xs.length
  | 0 => rfl
  | n + 1 => by
    show ((fcI xs d f n).set _ _).length = _
    rw [List.length_set, fcI_len n]
theorem fcF_len {xs : List V} {d : Int} : ∀ n, (fcF xs d n).length = xs.length
  | 0 => rfl
  | n + 1 => by
    show (fcI _ _ _ 4).length = _
    rw [fcI_len, fcF_len n]
theorem fcP_len {xs : List V} {d : Int} : ∀ n, (fcP xs d n).length = xs.length
  | 0 => rfl
  | n + 1 => by
    show ((fcP xs d n).set _ _).length = _
    rw [List.length_set, fcP_len n]
theorem fcD_len : ∀ n, (fcD n).length = 70
  | 0 => List.length_replicate
  | n + 1 => by
    show (fcP _ _ 6).length = _
    rw [fcP_len, fcF_len, fcD_len n]
theorem ixN_in {n : Nat} {i : Int} (h0 : 0 ≤ i) (h1 : i < n) : ixN n i = some i.toNat := by
  unfold ixN
  rw [if_pos h0, if_pos h1]
def spFirst : Sp := fun vs H Q _ => vs = [] ∧ ∀ (p : Addr) (H' : Hp), H p = none → Same H H' → H' p = some (.lst cells0) → Q (.ref p) H'
section
variable {P : Program} {w : World} {K : PySem.W.Frag} {mg : Str → Option Value} {base : Heap}
theorem ok_first_cells (T : Top K mg) : FnC P w K mg base CX0 5 (He.ga K "first_cells") spFirst := by
  have G_frame_cell := ok_frame_cell (P := P) (w := w) (base := base) T
  have G_table_word := ok_table_word (P := P) (w := w) (base := base) T
  have G_acknowledge := ok_acknowledge (P := P) (w := w) (base := base) T
  refine fnc0 T.d_first_cells sc_first_cells (fun _ _ _ _ _ _ us hl => match us, hl with | [], _ => rfl) (fun vs H Q E h => ?_) (fun cdv A outer s H vs Q E hr h => ?_)
  · obtain ⟨rfl, _⟩ := h
    rfl
  · obtain ⟨rfl, k⟩ := h
    refine ⟨_, (pss_cons (ps_set (i := 0) sc_first_cells.nd rfl (Or.inl rfl) (pe_op op_rep (pe_lst (pa_cons pe_int pa_nil)) (pe_f G_acknowledge hr (by decide) (by rfl) T.g_acknowledge pass0 (pa_cons (pe_gc (by rfl) T.c_DEVICES) pa_nil))))
    (pss_cons (ps_for PassesOwn.never rfl (pi_range1 (by rfl) T.b_range (pa_cons (pe_gc (by rfl) T.c_DEVICES) pa_nil)) (pg_name (i := 1) sc_first_cells.nd rfl (Or.inl rfl)) (pss_cons (ps_for PassesOwn.never rfl (pi_range1 (by rfl) T.b_range (pa_cons (pe_gc (by rfl) T.c_RING_FRAMES) pa_nil)) (pg_name (i := 2) sc_first_cells.nd rfl (Or.inl rfl)) (pss_one (ps_for PassesOwn.never rfl (pi_range1 (by rfl) T.b_range (pa_cons (pe_gc (by rfl) T.c_CELLS) pa_nil)) (pg_name (i := 3) sc_first_cells.nd rfl (Or.inl rfl)) (pss_one (ps_asg pe_non (pg_sub (pv 0) (pe_f G_frame_cell hr (by decide) (by rfl) T.g_frame_cell pass0 (pa_cons (pv 1) (pa_cons (pv 2) (pa_cons (pv 3) pa_nil)))) set_list))))))
    (pss_one (ps_for PassesOwn.never rfl (pi_range1 (by rfl) T.b_range (pa_cons (pe_gc (by rfl) T.c_PAGES) pa_nil)) (pg_name (i := 4) sc_first_cells.nd rfl (Or.inl rfl)) (pss_one (ps_asg pe_non (pg_sub (pv 0) (pe_f G_table_word hr (by decide) (by rfl) T.g_table_word pass0 (pa_cons (pv 1) (pa_cons (pv 4) pa_nil))) set_list)))))))
    (pss_one (ps_ret (pv 0))))), ?_⟩
    refine ⟨by decide, fun q hq => ⟨_, rfl, q, 70, [.int 0], rfl, rfl, upd_same, by decide, by decide, by decide, fun p hp => ?_⟩⟩
    have hp0 : H p = none := by
      by_cases e : p = q
      · rw [e]
        exact hq
      · rw [upd_ne e] at hp
        exact hp
    have s0 : Same H (upd (upd H q (.lst [.int 0])) p (.lst (List.replicate (70 : Int).toNat [V.int 0]).flatten)) := fun b o e => by
      rw [upd_ne (ne_of_none e hp0), upd_ne (ne_of_none e hq)]
      exact e
    refine ⟨2, rfl, by decide, by decide, for_range (n := 2) (fun i σ H1 => ∃ x1 x2 x3 x4, σ = [some (.ref p), x1, x2, x3, x4] ∧ H1 p = some (.lst (fcD i)) ∧ Same H H1) ?_ ?_ ?_⟩
    · exact ⟨none, none, none, none, rfl, upd_same, s0⟩
    · rintro i σ H1 hi ⟨x1, x2, x3, x4, rfl, e1, s1⟩
      -- for frame in range(RING_FRAMES)
      refine ⟨2, rfl, by decide, by decide, for_range (n := 2) (fun f σ H2 => ∃ x2 x3 x4, σ = [some (.ref p), some (.int (0 + (i : Int))), x2, x3, x4] ∧ H2 p = some (.lst (fcF (fcD i) (0 + (i : Int)) f)) ∧ Same H H2) ?_ ?_ ?_⟩
      · exact ⟨x2, x3, x4, rfl, e1, s1⟩
      · rintro f σ H2 hf ⟨x2, x3, x4, rfl, e2, s2⟩
        refine ⟨4, rfl, by decide, by decide, for_range (n := 4) (fun j σ H3 => ∃ x3 x4, σ = [some (.ref p), some (.int (0 + (i : Int))), some (.int (0 + (f : Int))), x3, x4] ∧ H3 p = some (.lst (fcI (fcF (fcD i) (0 + (i : Int)) f) (0 + (i : Int)) (0 + (f : Int)) j)) ∧ Same H H3) ?_ ?_ ?_⟩
        · exact ⟨x3, x4, rfl, e2, s2⟩
        · rintro j σ H3 hj ⟨x3, x4, rfl, e3, s3⟩
          refine ⟨_, rfl, _, rfl, _, rfl, _, rfl, _, _, _, rfl, p, _, _, _, rfl, rfl, e3, ixN_in ?_ ?_, ?_⟩
          · show 0 ≤ fcell (0 + (i : Int)) (0 + (f : Int)) (0 + (j : Int))
            unfold fcell
            omega
          · rw [fcI_len, fcF_len, fcD_len]
            show fcell (0 + (i : Int)) (0 + (f : Int)) (0 + (j : Int)) < 70
            unfold fcell
            omega
          · refine ⟨_, _, rfl, upd_same, fun b o e => ?_⟩
            rw [upd_ne (ne_of_none e hp0)]
            exact s3 b o e
        · rintro σ H3 ⟨x3, x4, rfl, e3, s3⟩
          exact ⟨_, _, _, rfl, e3, s3⟩
      · rintro σ H2 ⟨x2, x3, x4, rfl, e2, s2⟩
        -- for page in range(PAGES)
        refine ⟨6, rfl, by decide, by decide, for_range (n := 6) (fun j σ H3 => ∃ x2 x3 x4, σ = [some (.ref p), some (.int (0 + (i : Int))), x2, x3, x4] ∧ H3 p = some (.lst (fcP (fcF (fcD i) (0 + (i : Int)) 2) (0 + (i : Int)) j)) ∧ Same H H3) ?_ ?_ ?_⟩
        · exact ⟨x2, x3, x4, rfl, e2, s2⟩
        · rintro j σ H3 hj ⟨x2, x3, x4, rfl, e3, s3⟩
          refine ⟨_, rfl, _, rfl, _, rfl, _, _, rfl, p, _, _, _, rfl, rfl, e3, ixN_in ?_ ?_, ?_⟩
          · show 0 ≤ tword (0 + (i : Int)) (0 + (j : Int))
            unfold tword
            omega
          · rw [fcP_len, fcF_len, fcD_len]
            show tword (0 + (i : Int)) (0 + (j : Int)) < 70
            unfold tword
            omega
          · refine ⟨_, _, _, rfl, upd_same, fun b o e => ?_⟩
            rw [upd_ne (ne_of_none e hp0)]
            exact s3 b o e
        · rintro σ H3 ⟨x2, x3, x4, rfl, e3, s3⟩
          exact ⟨_, _, _, _, rfl, e3, s3⟩
    · rintro σ H1 ⟨x1, x2, x3, x4, rfl, e1, s1⟩
      exact ⟨_, rfl, k p H1 hp0 s1 e1⟩
end
end Rb
namespace Rb
open PySem PySem.Spec PyProof.Rows L2
abbrev CG (K : PySem.W.Frag) : Addr := He.ga K "Guard"
abbrev CM (K : PySem.W.Frag) : Addr := He.ga K "Memory"
def spGuardI (C : Addr) : Sp := fun vs H Q _ => ∃ (g d : Addr), vs = [.ref g] ∧ H g = some (.ins C d []) ∧ H d = some (.own g) ∧
  ∀ (e q : Addr) (H' : Hp), H e = none → H q = none → e ≠ q → GuardAt C ⟨g, d, e, q⟩ H' ⟨[], [], 0⟩ → (∀ b o, H b = some o → b ≠ g → H' b = some o) → Q .non H'
section
variable {P : Program} {w : World} {K : PySem.W.Frag} {mg : Str → Option Value} {base : Heap}
theorem ok_Guard_init (T : Top K mg) : FnC P w K mg base CX0 1 (He.ma K (He.ga K "Guard") "__init__") (spGuardI (CG K)) := by
  refine fnc0 T.d_Guard___init__ sc_Guard___init__ (fun _ _ _ _ _ _ us hl => match us, hl with | [_], _ => rfl) (fun vs H Q E h => ?_) (fun cdv A outer s H vs Q E hr h => ?_)
  · obtain ⟨g, d, rfl, _⟩ := h
    rfl
  · obtain ⟨g, d, rfl, hg, hd, k⟩ := h
    refine ⟨_, (pss_cons (ps_fld (pv 0) pe_dnewK rfl)
    (pss_cons (ps_fld (pv 0) (pe_lst pa_nil) rfl)
    (pss_one (ps_fld (pv 0) pe_int rfl)))), ?_⟩
    intro e he
    have nge : g ≠ e := ne_of_none hg he
    have nde : d ≠ e := ne_of_none hd he
    refine ⟨_, rfl, g, CG K, d, List.zip [] [], rfl, (upd_ne nge).trans hg, T.cl_Guard, T.na_Guard__entries, (by decide), ?_⟩
    refine ⟨by decide, fun q hq => ?_⟩
    obtain ⟨nqg, hq⟩ := free_upd hq
    obtain ⟨nqe, hq⟩ := free_upd hq
    have nge' := nge.symm
    refine ⟨_, rfl, g, CG K, d, List.zip ["_entries"] [.ref e], rfl, ?_, T.cl_Guard, T.na_Guard__queue, (by show 1 < 1000; decide), ?_⟩
    · rw [upd_ne nqg.symm, upd_same, zx (by decide +kernel) rfl]
      rfl
    refine ⟨_, rfl, g, CG K, d, List.zip ["_entries", "_queue"] [.ref e, .ref q], rfl, ?_, T.cl_Guard, T.na_Guard__tickets, (by show 2 < 1000; decide), ?_⟩
    · rw [upd_same, zx (by decide +kernel) rfl]
      rfl
    refine k e q _ he hq nqe.symm ⟨?_, ?_, ?_, ?_⟩ fun b o hb nb => ?_
    · rw [upd_same, zx (by decide +kernel) rfl]
      rfl
    · show _ = some (HO.own g)
      rw [upd_ne (ne_of hd hg (by intro z; cases z)), upd_ne (ne_of hd hg (by intro z; cases z)), upd_ne (ne_of_none hd hq), upd_ne (ne_of hd hg (by intro z; cases z)), upd_ne nde]
      exact hd
    · show _ = some (HO.dK [])
      rw [upd_ne nge', upd_ne nge', upd_ne nqe.symm, upd_ne nge', upd_same]
    · show _ = some (HO.lst [])
      rw [upd_ne nqg, upd_ne nqg, upd_same]
    · rw [upd_ne nb, upd_ne nb, upd_ne (ne_of_none hb hq), upd_ne nb, upd_ne (ne_of_none hb he)]
      exact hb
end
end Rb
namespace Rb
open PySem PySem.Spec PyProof.Rows L2
def G0 : GS := ⟨[], [], 0⟩
def M0 (z : Nat → Addr) (t : Addr) : MS := ⟨0, cells0, fun d => List.replicate 8 (.ref (z d)), [.ref t, .ref t], [], fun _ => G0⟩
def spMemI (Cm Cg : Addr) : Sp := fun vs H Q _ => ∃ (m d : Addr), vs = [.ref m] ∧ H m = some (.ins Cm d []) ∧ H d = some (.own m) ∧ m ≠ d ∧
  ∀ (L : ML) (H' : Hp) (z : Nat → Addr) (t : Addr), L.m = m → L.d = d → MemAt Cm Cg L H' (M0 z t) → (∀ a ∈ L.all, a = m ∨ a = d ∨ H a = none) →
    (∀ i, i < 2 → H' (z i) = some (.tup [.int 0, .int 0, .int 0, .int 0])) → H' t = some (.tup []) → (∀ b o, H b = some o → b ≠ m → H' b = some o) → Q .non H'
theorem upd_keep {H H1 : Hp} {m : Addr} {o : HO} (k : ∀ b u, H b = some u → b ≠ m → H1 b = some u) : ∀ b u, H b = some u → b ≠ m → upd H1 m o b = some u := fun b u e n => by
  rw [upd_ne n]
  exact k b u e n
theorem new_keep {H H1 : Hp} {m p : Addr} {o : HO} (k : ∀ b u, H b = some u → b ≠ m → H1 b = some u) (hp : H1 p = none) : ∀ b u, H b = some u → b ≠ m → upd H1 p o b = some u := fun b u e n => by
  rw [upd_ne (ne_of_none (k b u e n) hp)]
  exact k b u e n
section
variable {P : Program} {w : World} {K : PySem.W.Frag} {mg : Str → Option Value} {base : Heap}
/-- [Guard() for device in range(2)], by what it leaves -/
theorem guards_comp {Cg : Addr} {H : Hp} {D m d : Addr} {σ : L2.St} {Qd : Hp → Prop} (hw : wipe (wipe σ [1]) [1] = wipe σ [1]) (hw2 : ∀ x, wipe ((wipe σ [1]).set 1 x) [1] = wipe σ [1]) (t0 : Trk H [m, d]) (hD : H D = none)
    (hd : ∀ (H1 : Hp) (gs : List GL), gs.length = 2 → H1 D = some (.lst (gs.map fun L => V.ref L.g)) → (∀ L ∈ gs, GuardAt Cg L H1 G0) → Trk H1 ([m, d, D] ++ gs.flatMap GL.all) → (∀ a ∈ gs.flatMap GL.all, H a = none) → Same H H1 → Qd H1) :
    ∃ W : Nat → Nat → Hp → Prop, (∃ n, W 0 n (upd H D (.lst []))) ∧ ∀ i n H', W i n H' →
      ((Itr 0 2).stop i H' ∧ Qd H') ∨ ((Itr 0 2).go i H' ∧ ∃ Nx : Hp → Prop, (∀ H2, Nx H2 → ∃ n', n' < n ∧ W (i + 1) n' H2) ∧ ∀ x H2, (Itr 0 2).yld i H' x H2 → gName 1 x (wipe σ [1]) H2 fun σ2 H3 => wipe σ2 [1] = wipe σ [1] ∧ tYes σ2 H3 fun b H4 =>
        if b = true then tMake Cg (spGuardI Cg) [] E0 tNil σ2 H4 fun y H5 => ∃ acc, H5 D = some (.lst acc) ∧ acc.length < sizeLine ∧ Nx (upd H5 D (.lst (acc ++ [y]))) else Nx H4) := by
  refine lc_range (n := 2) (fun i H1 => ∃ gs : List GL, gs.length = i ∧ H1 D = some (.lst (gs.map fun L => V.ref L.g)) ∧ (∀ L ∈ gs, GuardAt Cg L H1 G0) ∧ Trk H1 ([m, d, D] ++ gs.flatMap GL.all) ∧ (∀ a ∈ gs.flatMap GL.all, H a = none) ∧ Same H H1) ?_ ?_ ?_
  · refine ⟨[], rfl, upd_same, fun L hL => (nomatch hL), ?_, fun a ha => (nomatch ha), Same.new (Same.refl H) hD⟩
    exact t0.new hD
  · rintro i H1 hi ⟨gs, hl, hL, hg, tk, hf, sm⟩
    refine ⟨hw2 _, ?_⟩
    intro x dx hx hdx nex
    have g0 : upd (upd H1 dx (.own x)) x (.ins Cg dx []) x = some (.ins Cg dx []) := upd_same
    have g1 : upd (upd H1 dx (.own x)) x (.ins Cg dx []) dx = some (.own x) := by rw [upd_ne nex, upd_same]
    refine ⟨x, dx, rfl, g0, g1, fun e q H3 he hq neq GA kp => ⟨rfl, ?_⟩⟩
    obtain ⟨nex', he⟩ := free_upd he
    obtain ⟨ned, he⟩ := free_upd he
    obtain ⟨nqx, hq⟩ := free_upd hq
    obtain ⟨nqd, hq⟩ := free_upd hq
    have k13 : ∀ b o, H1 b = some o → H3 b = some o := fun b o hb => by
      refine kp b o ?_ (ne_of_none hb hx)
      rw [upd_ne (ne_of_none hb hx), upd_ne (ne_of_none hb hdx)]
      exact hb
    have hD3 := k13 _ _ hL
    have tk3 : Trk H3 ([m, d, D] ++ gs.flatMap GL.all ++ [dx, x, e, q]) := by
      refine tk.adds ?_ ?_ ?_ fun a ha hb => (tk.same k13).tr a ha
      · simp [nex, ned.symm, nqd.symm, nex'.symm, nqx.symm, neq]
      · intro p hp
        simp at hp
        rcases hp with rfl | rfl | rfl | rfl <;> assumption
      · intro p hp
        simp at hp
        rcases hp with rfl | rfl | rfl | rfl
        · exact some_ne GA.od
        · exact some_ne GA.og
        · exact some_ne GA.oe
        · exact some_ne GA.oq
    have nD : ∀ a ∈ gs.flatMap GL.all ++ [dx, x, e, q], a ≠ D := fun a ha z => by
      have n := tk3.nd
      rw [List.append_assoc, List.nodup_append] at n
      exact n.2.2 D (by simp) a ha z.symm
    refine ⟨_, hD3, ?_, gs ++ [⟨x, dx, e, q⟩], by simp [hl], ?_, fun L hL' => ?_, ?_, fun a ha => ?_, ?_⟩
    · rw [List.length_map, hl]
      exact Nat.lt_trans hi (by decide)
    · rw [upd_same, List.map_append]
      rfl
    · rcases List.mem_append.mp hL' with z | z
      · refine (hg L z).keep fun b hb => ?_
        have hm : b ∈ gs.flatMap GL.all := List.mem_flatMap.mpr ⟨L, z, hb⟩
        rw [upd_ne (nD b (List.mem_append_left _ hm))]
        have := tk.tr b (List.mem_append_right _ hm)
        cases q2 : H1 b with
        | none => exact absurd q2 this
        | some o => exact k13 b o q2
      · rw [List.mem_singleton] at z
        subst z
        refine GA.keep fun b hb => ?_
        rw [upd_ne (nD b (List.mem_append_right _ hb))]
    · rw [List.flatMap_append]
      exact (by simpa [GL.all] using tk3.upd)
    · rw [List.flatMap_append] at ha
      rcases List.mem_append.mp ha with z | z
      · exact hf a z
      · simp [GL.all] at z
        rcases z with rfl | rfl | rfl | rfl
        · exact sm.free hdx
        · exact sm.free hx
        · exact sm.free he
        · exact sm.free hq
    · exact fun b o hb => by
        rw [upd_ne (ne_of_none hb hD)]
        exact k13 b o (sm b o hb)
  · rintro H1 ⟨gs, hl, hL, hg, tk, hf, sm⟩
    exact hd H1 gs hl hL hg tk hf sm
end
end Rb
namespace Rb
open PySem PySem.Spec PyProof.Rows L2
def zero4 : List V := [.int 0, .int 0, .int 0, .int 0]
section
variable {P : Program} {w : World} {K : PySem.W.Frag} {mg : Str → Option Value} {base : Heap}
theorem blocks_comp {H : Hp} {D : Addr} {S : List Addr} {σ : L2.St} {Qd : Hp → Prop} (hw2 : ∀ x, wipe ((wipe σ [1]).set 1 x) [1] = wipe σ [1]) (t0 : Trk H S) (hD : H D = none)
    (hd : ∀ (H1 : Hp) (bs : List (Addr × Addr)), bs.length = 2 → H1 D = some (.lst (bs.map fun x => V.ref x.1)) → (∀ x ∈ bs, H1 x.1 = some (.lst (List.replicate 8 (.ref x.2))) ∧ H1 x.2 = some (.tup zero4)) →
      Trk H1 (S ++ [D] ++ bs.map (·.1)) → (∀ x ∈ bs, H x.1 = none) → Same H H1 → Qd H1) :
    ∃ W : Nat → Nat → Hp → Prop, (∃ n, W 0 n (upd H D (.lst []))) ∧ ∀ i n H', W i n H' →
      ((Itr 0 2).stop i H' ∧ Qd H') ∨ ((Itr 0 2).go i H' ∧ ∃ Nx : Hp → Prop, (∀ H2, Nx H2 → ∃ n', n' < n ∧ W (i + 1) n' H2) ∧ ∀ x H2, (Itr 0 2).yld i H' x H2 → gName 1 x (wipe σ [1]) H2 fun σ2 H3 => wipe σ2 [1] = wipe σ [1] ∧ tYes σ2 H3 fun b H4 =>
        if b = true then tOp rRep (tLst (tCons (tOp (rRepT K) (tTup (tCons (tC (.int 0)) tNil)) (tC (.int 4))) tNil)) (tC (.int 8)) σ2 H4 fun y H5 => ∃ acc, H5 D = some (.lst acc) ∧ acc.length < sizeLine ∧ Nx (upd H5 D (.lst (acc ++ [y]))) else Nx H4) := by
  refine lc_range (n := 2) (fun i H1 => ∃ bs : List (Addr × Addr), bs.length = i ∧ H1 D = some (.lst (bs.map fun x => V.ref x.1)) ∧ (∀ x ∈ bs, H1 x.1 = some (.lst (List.replicate 8 (.ref x.2))) ∧ H1 x.2 = some (.tup zero4)) ∧
    Trk H1 (S ++ [D] ++ bs.map (·.1)) ∧ (∀ x ∈ bs, H x.1 = none) ∧ Same H H1) ?_ ?_ ?_
  · exact ⟨[], rfl, upd_same, fun L hL => (nomatch hL), by simpa using t0.new hD, fun a ha => (nomatch ha), Same.new (Same.refl H) hD⟩
  · rintro i H1 hi ⟨bs, hl, hL, hb, tk, hf, sm⟩
    refine ⟨hw2 _, ?_⟩
    refine ⟨by decide, fun p1 h1 => ⟨p1, 4, [.int 0], rfl, rfl, SqT.of upd_same, by simp, by decide, by decide, by decide, fun p2 h2 => ⟨(by show 1 ≤ sizeLine; decide), fun p3 h3 => ⟨p3, 8, [.ref p2], rfl, rfl, upd_same, by decide, by decide, (by show 1 * 8 ≤ sizeLine; decide), fun p4 h4 => ?_⟩⟩⟩⟩
    have s1 : Same H1 (upd H1 p1 (.tup [.int 0])) := Same.new (Same.refl H1) h1
    have s2 := Same.new (o := HO.tup (List.replicate (4 : Int).toNat [V.int 0]).flatten) s1 (s1.free h2)
    have s3 := Same.new (o := HO.lst [.ref p2]) s2 (s2.free h3)
    have s4 := Same.new (o := HO.lst (List.replicate (8 : Int).toNat [V.ref p2]).flatten) s3 (s3.free h4)
    have hD4 := s4 _ _ hL
    have f4 : H1 p4 = none := s3.free h4
    have tk4 := (tk.same s3).new (o := HO.lst (List.replicate (8 : Int).toNat [V.ref p2]).flatten) h4
    have n4D : p4 ≠ D := fun z => tk4.nd |> fun n => by
      rw [List.nodup_append] at n
      exact n.2.2 D (by simp) p4 (by simp) z.symm
    have e2 : p2 ≠ D := fun z => by
      rw [z, s1 _ _ hL] at h2
      cases h2
    obtain ⟨n43, h4'⟩ := free_upd h4
    obtain ⟨n42, _⟩ := free_upd h4'
    refine ⟨_, hD4, ?_, bs ++ [(p4, p2)], by simp [hl], ?_, fun x hx => ?_, ?_, fun x hx => ?_, ?_⟩
    · rw [List.length_map, hl]
      exact Nat.lt_trans hi (by decide)
    · rw [upd_same, List.map_append]
      rfl
    · rcases List.mem_append.mp hx with z | z
      · obtain ⟨y1, y2⟩ := hb x z
        have n1 : x.1 ≠ D := fun q => by
          have n := tk.nd
          rw [List.nodup_append] at n
          exact n.2.2 D (by simp) x.1 (List.mem_map.mpr ⟨x, z, rfl⟩) q.symm
        have n2 : x.2 ≠ D := ne_of y2 hL (by intro q; cases q)
        rw [upd_ne n1, upd_ne n2]
        exact ⟨s4 _ _ y1, s4 _ _ y2⟩
      · rw [List.mem_singleton] at z
        subst z
        refine ⟨?_, ?_⟩
        · show upd _ D _ p4 = _
          rw [upd_ne n4D, upd_same]
          rfl
        · show upd _ D _ p2 = _
          rw [upd_ne e2, upd_ne n42.symm]
          have n32 : p2 ≠ p3 := fun z => by
            rw [← z, upd_same] at h3
            cases h3
          rw [upd_ne n32, upd_same]
          rfl
    · have := tk4.upd (p := D) (o := HO.lst (bs.map (fun x => V.ref x.1) ++ [V.ref p4]))
      simpa using this
    · rcases List.mem_append.mp hx with z | z
      · exact hf x z
      · rw [List.mem_singleton] at z
        subst z
        exact sm.free f4
    · exact fun b o hb' => by
        rw [upd_ne (ne_of_none hb' hD)]
        exact s4 b o (sm b o hb')
  · rintro H1 ⟨bs, hl, hL, hb, tk, hf, sm⟩
    exact hd H1 bs hl hL hb tk hf sm
end
end Rb
namespace Rb
open PySem PySem.Spec PyProof.Rows L2
section
variable {P : Program} {w : World} {K : PySem.W.Frag} {mg : Str → Option Value} {base : Heap}
theorem len2 {α : Type} {l : List α} (h : l.length = 2) : ∃ a b, l = [a, b] := by
  match l, h with
  | [a, b], _ => exact ⟨a, b, rfl⟩
theorem ok_Memory_init (T : Top K mg) : FnC P w K mg base CX0 6 (He.ma K (He.ga K "Memory") "__init__") (spMemI (CM K) (CG K)) := by
  have G_Guard___init__ := ok_Guard_init (P := P) (w := w) (base := base) T
  have G_first_cells := ok_first_cells (P := P) (w := w) (base := base) T
  refine fnc0 T.d_Memory___init__ sc_Memory___init__ (fun _ _ _ _ _ _ us hl => match us, hl with | [_], _ => rfl) (fun vs H Q E h => ?_) (fun cdv A outer s H vs Q E hr h => ?_)
  · obtain ⟨m, d, rfl, _⟩ := h
    rfl
  · obtain ⟨m, d, rfl, hm, hdd, nmd, k⟩ := h
    refine ⟨_, (pss_cons (ps_fld (pv 0) pe_int rfl)
    (pss_cons (ps_fld (pv 0) (pe_lc (own := [("device", 1)]) (g := gName 1) (tt := tYes) rfl sc_Memory___init__.nd (pi_range1 (by rfl) T.b_range (pa_cons (pe_gc (by rfl) T.c_DEVICES) pa_nil)) (blkOk_by (N := ["self", "device"]) (sc := defScope s_Memory___init__) (by decide +kernel)) (fun _ _ _ _ _ => (pg_name (i := 1) sc_Memory___init__.nd rfl (Or.inl rfl))) (fun _ _ _ _ _ => pts_nil) (fun _ _ _ _ _ => (pe_k0 G_Guard___init__ hr (by decide) (by rfl) T.g_Guard T.mk_Guard pass0))) rfl)
    (pss_cons (ps_fld (pv 0) (pe_f0 G_first_cells hr (by decide) (by rfl) T.g_first_cells pass0) rfl)
    (pss_cons (ps_fld (pv 0) (pe_lc (own := [("device", 1)]) (g := gName 1) (tt := tYes) rfl sc_Memory___init__.nd (pi_range1 (by rfl) T.b_range (pa_cons (pe_gc (by rfl) T.c_DEVICES) pa_nil)) (blkOk_by (N := ["self", "device"]) (sc := defScope s_Memory___init__) (by decide +kernel)) (fun _ _ _ _ _ => (pg_name (i := 1) sc_Memory___init__.nd rfl (Or.inl rfl))) (fun _ _ _ _ _ => pts_nil) (fun _ _ _ _ _ => (pe_op op_rep (pe_lst (pa_cons (pe_op (r := rRepT K) op_repT (pe_tup (pa_cons pe_int pa_nil)) (pe_gc (by rfl) T.c_CELLS)) pa_nil)) (pe_gc (by rfl) T.c_BLOCKS)))) rfl)
    (pss_cons (ps_fld (pv 0) (pe_op op_rep (pe_lst (pa_cons (pe_tup pa_nil) pa_nil)) (pe_gc (by rfl) T.c_DEVICES)) rfl)
    (pss_one (ps_fld (pv 0) (pe_lst pa_nil) rfl))))))), ?_⟩
    -- self.count = 0
    refine ⟨_, rfl, m, CM K, d, List.zip [] [], rfl, hm, T.cl_Memory, T.na_Memory_count, (by decide), ?_⟩
    rw [zx (by decide +kernel) rfl]
    generalize eH1 : upd H m (.ins (CM K) d (List.zip ([] ++ [("count" : Str)]) ([] ++ [V.int 0]))) = H1
    have m1 : H1 m = some (.ins (CM K) d (List.zip ["count"] [.int 0])) := by
      rw [← eH1, upd_same]
      rfl
    have k1 : ∀ b o, H b = some o → b ≠ m → H1 b = some o := fun b o hb n => by
      rw [← eH1, upd_ne n]
      exact hb
    have d1 : H1 d = some (.own m) := k1 _ _ hdd nmd.symm
    have t1 : Trk H1 [m, d] := ⟨by simp [nmd], fun a ha => by
      simp at ha
      rcases ha with rfl | rfl
      · exact some_ne m1
      · exact some_ne d1⟩
    have f1 : ∀ a, H1 a = none → H a = none := fun a ha => by
      rw [← eH1] at ha
      exact (free_upd ha).2
    -- self.guards = [Guard() for device in range(DEVICES)]
    refine ⟨2, rfl, by decide, by decide, fun aG hG => ?_⟩
    refine guards_comp (m := m) (d := d) rfl (fun _ => rfl) t1 hG ?_
    rintro H2 gs hgl hGL hgs t2 hf2 s2
    obtain ⟨L0, L1, rfl⟩ := len2 hgl
    have m2 := s2 _ _ m1
    refine ⟨_, rfl, m, CM K, d, List.zip ["count"] [.int 0], rfl, m2, T.cl_Memory, T.na_Memory_guards, (by show 1 < 1000; decide), ?_⟩
    rw [zx (by decide +kernel) rfl]
    -- self._cells = first_cells()
    refine ⟨rfl, fun aC H3 hC0 s3 hC => ?_⟩
    obtain ⟨nCm, hC0⟩ := free_upd hC0
    have m3 : H3 m = some (.ins (CM K) d (List.zip ["count", "guards"] [.int 0, .ref aG])) := s3 _ _ upd_same
    refine ⟨_, rfl, m, CM K, d, _, rfl, m3, T.cl_Memory, T.na_Memory__cells, (by show 2 < 1000; decide), ?_⟩
    rw [zx (by decide +kernel) rfl]
    generalize eH4 : upd H3 m (.ins (CM K) d (List.zip ((["count", "guards"] : List Str) ++ [("_cells" : Str)]) ([.int 0, .ref aG] ++ [V.ref aC]))) = H4
    have m4 : H4 m = some (.ins (CM K) d (List.zip ["count", "guards", "_cells"] [.int 0, .ref aG, .ref aC])) := by
      rw [← eH4, upd_same]
      rfl
    have k24 : ∀ b o, H2 b = some o → b ≠ m → H4 b = some o := fun b o hb n => by
      rw [← eH4, upd_ne n]
      refine s3 b o ?_
      rw [upd_ne n]
      exact hb
    have k34 : ∀ b o, H3 b = some o → b ≠ m → H4 b = some o := fun b o hb n => by
      rw [← eH4, upd_ne n]
      exact hb
    have tr4 : ∀ a, H2 a ≠ none → H4 a ≠ none := fun a ha => by
      by_cases e : a = m
      · rw [e]
        exact some_ne m4
      · cases q : H2 a with
        | none => exact absurd q ha
        | some o => exact some_ne (k24 a o q e)
    have t4 : Trk H4 ([m, d, aG] ++ [L0, L1].flatMap GL.all ++ [aC]) := t2.add hC0 (some_ne (k34 _ _ hC nCm)) fun a _ ha => tr4 a ha
    have f4 : ∀ a, H4 a = none → H2 a = none := fun a ha => by
      cases q : H2 a with
      | none => rfl
      | some o => exact absurd ha (tr4 a (some_ne q))
    -- self._blocks = [..]
    refine ⟨2, rfl, by decide, by decide, fun aB hB => ?_⟩
    refine blocks_comp (fun _ => rfl) t4 hB ?_
    rintro H5 bs hbl hBL hbs t5 hf5 s5
    obtain ⟨⟨b0, z0⟩, ⟨b1, z1⟩, rfl⟩ := len2 hbl
    have m5 := s5 _ _ m4
    refine ⟨_, rfl, m, CM K, d, _, rfl, m5, T.cl_Memory, T.na_Memory__blocks, (by show 3 < 1000; decide), ?_⟩
    rw [zx (by decide +kernel) rfl]
    generalize eH6 : upd H5 m (.ins (CM K) d (List.zip ((["count", "guards", "_cells"] : List Str) ++ [("_blocks" : Str)]) ([.int 0, .ref aG, .ref aC] ++ [V.ref aB]))) = H6
    have m6 : H6 m = some (.ins (CM K) d (List.zip ["count", "guards", "_cells", "_blocks"] [.int 0, .ref aG, .ref aC, .ref aB])) := by
      rw [← eH6, upd_same]
      rfl
    have k56 : ∀ b o, H5 b = some o → b ≠ m → H6 b = some o := fun b o hb n => by
      rw [← eH6, upd_ne n]
      exact hb
    have tr6 : ∀ a, H5 a ≠ none → H6 a ≠ none := fun a ha => by
      rw [← eH6]
      exact dom_upd ha
    -- self._journals = [()] * DEVICES
    refine ⟨by decide, fun t ht => ⟨(by show 1 ≤ sizeLine; decide), fun l hl => ⟨l, 2, [.ref t], rfl, rfl, upd_same, by decide, by decide, (by show 1 * 2 ≤ sizeLine; decide), fun aJ hJ => ?_⟩⟩⟩
    obtain ⟨nJl, hJ'⟩ := free_upd hJ
    obtain ⟨nJt, hJ6⟩ := free_upd hJ'
    obtain ⟨nlt, hl6⟩ := free_upd hl
    have s67 : Same H6 (upd (upd (upd H6 t (.tup [])) l (.lst [.ref t])) aJ (.lst (List.replicate (2 : Int).toNat [V.ref t]).flatten)) :=
      Same.new (Same.new (Same.new (Same.refl H6) ht) hl6) hJ6
    refine ⟨_, rfl, m, CM K, d, _, rfl, s67 _ _ m6, T.cl_Memory, T.na_Memory__journals, (by show 4 < 1000; decide), ?_⟩
    rw [zx (by decide +kernel) rfl]
    have eJ : upd (upd (upd H6 t (.tup [])) l (.lst [.ref t])) aJ (.lst (List.replicate (2 : Int).toNat [V.ref t]).flatten) aJ = some (.lst [.ref t, .ref t]) := upd_same
    have eT : upd (upd (upd H6 t (.tup [])) l (.lst [.ref t])) aJ (.lst (List.replicate (2 : Int).toNat [V.ref t]).flatten) t = some (.tup []) := by
      rw [upd_ne nJt.symm, upd_ne nlt.symm, upd_same]
    generalize upd (upd (upd H6 t (.tup [])) l (.lst [.ref t])) aJ (.lst (List.replicate (2 : Int).toNat [V.ref t]).flatten) = H7 at s67 eJ eT
    have nJm : aJ ≠ m := fun z => by
      rw [z, m6] at hJ6
      cases hJ6
    generalize eH8 : upd H7 m (.ins (CM K) d (List.zip ((["count", "guards", "_cells", "_blocks"] : List Str) ++ [("_journals" : Str)]) ([.int 0, .ref aG, .ref aC, .ref aB] ++ [V.ref aJ]))) = H8
    have m8 : H8 m = some (.ins (CM K) d (List.zip ["count", "guards", "_cells", "_blocks", "_journals"] [.int 0, .ref aG, .ref aC, .ref aB, .ref aJ])) := by
      rw [← eH8, upd_same]
      rfl
    have k78 : ∀ b o, H7 b = some o → b ≠ m → H8 b = some o := fun b o hb n => by
      rw [← eH8, upd_ne n]
      exact hb
    -- self._log = []
    refine ⟨by decide, fun aL hL => ?_⟩
    have s8 : Same H8 (upd H8 aL (.lst [])) := Same.new (Same.refl H8) hL
    refine ⟨_, rfl, m, CM K, d, _, rfl, s8 _ _ m8, T.cl_Memory, T.na_Memory__log, (by show 5 < 1000; decide), ?_⟩
    rw [zx (by decide +kernel) rfl]
    have nLm : aL ≠ m := fun z => by
      rw [z, m8] at hL
      cases hL
    -- what stands behind
    have k58 : ∀ b o, H5 b = some o → b ≠ m → H8 b = some o := fun b o hb n => k78 b o (s67 b o (k56 b o hb n)) n
    have k28 : ∀ b o, H2 b = some o → b ≠ m → H8 b = some o := fun b o hb n => k58 b o (s5 b o (k24 b o hb n)) n
    have tr8 : ∀ a, H5 a ≠ none → H8 a ≠ none := fun a ha => by
      by_cases e : a = m
      · rw [e]
        exact some_ne m8
      · cases q : H5 a with
        | none => exact absurd q ha
        | some o => exact some_ne (k58 a o q e)
    have f5 : ∀ a, H5 a = none → H2 a = none := fun a ha => f4 a (s5.free ha)
    have f6 : ∀ a, H6 a = none → H5 a = none := fun a ha => by
      rw [← eH6] at ha
      exact (free_upd ha).2
    have f8 : ∀ a, H8 a = none → H5 a = none := fun a ha => by
      cases q : H5 a with
      | none => rfl
      | some o => exact absurd ha (tr8 a (some_ne q))
    have t8 := (t5.adds (ps := [aJ]) (by simp) (fun p hp => by
      rw [List.mem_singleton.mp hp]
      exact f6 aJ hJ6) (fun p hp => by
      rw [List.mem_singleton.mp hp]
      exact some_ne (k78 _ _ eJ nJm)) fun a _ ha => tr8 a ha)
    have t9 := t8.new (o := HO.lst []) hL
    have fin : ∀ b o, H8 b = some o → b ≠ m → upd (upd H8 aL (.lst [])) m (.ins (CM K) d (List.zip ((["count", "guards", "_cells", "_blocks", "_journals"] : List Str) ++ [("_log" : Str)]) ([.int 0, .ref aG, .ref aC, .ref aB, .ref aJ] ++ [V.ref aL]))) b = some o := fun b o hb n => by
      rw [upd_ne n]
      exact s8 b o hb
    refine k ⟨m, d, aG, aC, aB, fun i => if i = 0 then b0 else b1, aJ, aL, fun i => if i = 0 then L0 else L1⟩ _ (fun i => if i = 0 then z0 else z1) t rfl rfl ?_ (fun a ha => ?_) (fun i hi => ?_) ?_ (fun b o hb nb => ?_)
    · have nm : ∀ a ∈ [d, aG] ++ [L0, L1].flatMap GL.all ++ [aC, aB, b0, b1, aJ, aL], a ≠ m := fun a ha z => by
        have n := t9.nd
        simp only [List.cons_append, List.nil_append, List.append_assoc, List.flatMap_cons, List.flatMap_nil, List.map_cons, List.map_nil, List.append_nil] at n ha
        rw [List.nodup_cons] at n
        subst z
        exact n.1 (by simpa using ha)
      have gk : ∀ L ∈ [L0, L1], GuardAt (CG K) L (upd (upd H8 aL (.lst [])) m (.ins (CM K) d (List.zip ((["count", "guards", "_cells", "_blocks", "_journals"] : List Str) ++ [("_log" : Str)]) ([.int 0, .ref aG, .ref aC, .ref aB, .ref aJ] ++ [V.ref aL])))) G0 := fun L hL' => by
        have g := hgs L hL'
        have nn : ∀ b ∈ L.all, b ≠ m := fun b hb => nm b (List.mem_append_left _ (List.mem_append_right _ (List.mem_flatMap.mpr ⟨L, hL', hb⟩)))
        exact ⟨fin _ _ (k28 _ _ g.og (nn _ (by simp [GL.all]))) (nn _ (by simp [GL.all])), fin _ _ (k28 _ _ g.od (nn _ (by simp [GL.all]))) (nn _ (by simp [GL.all])),
          fin _ _ (k28 _ _ g.oe (nn _ (by simp [GL.all]))) (nn _ (by simp [GL.all])), fin _ _ (k28 _ _ g.oq (nn _ (by simp [GL.all]))) (nn _ (by simp [GL.all]))⟩
      have ndm : d ≠ m := nmd.symm
      have nGm : aG ≠ m := nm _ (by simp)
      have nBm : aB ≠ m := nm _ (by simp)
      have n0m : b0 ≠ m := nm _ (by simp)
      have n1m : b1 ≠ m := nm _ (by simp)
      refine ⟨upd_same, fin _ _ (k28 _ _ (s2 _ _ d1) ndm) ndm, fin _ _ (k28 _ _ hGL nGm) nGm, fin _ _ (k58 _ _ (s5 _ _ (k34 _ _ hC nCm)) nCm) nCm, fin _ _ (k58 _ _ hBL nBm) nBm, fun i hi => ?_,
        fin _ _ (k78 _ _ eJ nJm) nJm, ?_, fun i hi => ?_, ?_⟩
      · rcases lt2 hi with rfl | rfl
        · exact fin _ _ (k58 _ _ (hbs (b0, z0) (by simp)).1 n0m) n0m
        · exact fin _ _ (k58 _ _ (hbs (b1, z1) (by simp)).1 n1m) n1m
      · show upd _ m _ aL = _
        rw [upd_ne nLm, upd_same]
        rfl
      · rcases lt2 hi with rfl | rfl
        · exact gk L0 (by simp)
        · exact gk L1 (by simp)
      · have n := t9.nd
        simp only [ML.all, List.cons_append, List.nil_append, List.append_assoc, List.flatMap_cons, List.flatMap_nil, List.map_cons, List.map_nil, List.append_nil] at n ⊢
        exact n
    · simp only [ML.all, List.cons_append, List.nil_append, List.append_assoc, List.mem_cons, List.mem_append, List.not_mem_nil, or_false] at ha
      have h0 : ∀ a ∈ [L0, L1].flatMap GL.all, H a = none := fun a ha => f1 a (hf2 a ha)
      rcases ha with e | e | e | ha | ha | e | e | e | e | e | e
      · exact .inl e
      · exact .inr (.inl e)
      · exact .inr (.inr (by rw [e]; exact f1 _ hG))
      · exact .inr (.inr (h0 a (List.mem_flatMap.mpr ⟨L0, by simp, ha⟩)))
      · exact .inr (.inr (h0 a (List.mem_flatMap.mpr ⟨L1, by simp, ha⟩)))
      · exact .inr (.inr (by rw [e]; exact f1 _ (s2.free hC0)))
      · exact .inr (.inr (by rw [e]; exact f1 _ (s2.free (f4 _ hB))))
      · have e' : a = b0 := e
        exact .inr (.inr (by rw [e']; exact f1 _ (s2.free (f4 _ (hf5 (b0, z0) (by simp))))))
      · have e' : a = b1 := e
        exact .inr (.inr (by rw [e']; exact f1 _ (s2.free (f4 _ (hf5 (b1, z1) (by simp))))))
      · exact .inr (.inr (by rw [e]; exact f1 _ (s2.free (f5 _ (f6 _ hJ6)))))
      · exact .inr (.inr (by rw [e]; exact f1 _ (s2.free (f5 _ (f8 _ hL)))))
    · have nz : ∀ z, H5 z = some (.tup zero4) → z ≠ m := fun z hz => ne_of hz m5 (by intro q; cases q)
      rcases lt2 hi with rfl | rfl
      · have y := (hbs (b0, z0) (by simp)).2
        exact fin _ _ (k58 _ _ y (nz _ y)) (nz _ y)
      · have y := (hbs (b1, z1) (by simp)).2
        exact fin _ _ (k58 _ _ y (nz _ y)) (nz _ y)
    · have ntm : t ≠ m := ne_of eT (s67 _ _ m6) (by intro q; cases q)
      exact fin _ _ (k78 _ _ eT ntm) ntm
    · exact fin _ _ (k28 _ _ (s2 _ _ (k1 b o hb nb)) nb) nb
end
end Rb
namespace Rb
open PySem PySem.Spec PyProof.Rows L2
theorem lk_e {e q : Addr} {n : Int} : (gFld e q n).lookup ("_entries" : Str) = some (.ref e) := zl (i := 0) (by decide +kernel) rfl
theorem lk_q {e q : Addr} {n : Int} : (gFld e q n).lookup ("_queue" : Str) = some (.ref q) := zl (i := 1) (by decide +kernel) rfl
theorem lk_t {e q : Addr} {n : Int} : (gFld e q n).lookup ("_tickets" : Str) = some (.int n) := zl (i := 2) (by decide +kernel) rfl
theorem lm_c {n : Int} {aG aC aB aJ aL : Addr} : (mFld n aG aC aB aJ aL).lookup ("count" : Str) = some (.int n) := zl (i := 0) (by decide +kernel) rfl
theorem lm_g {n : Int} {aG aC aB aJ aL : Addr} : (mFld n aG aC aB aJ aL).lookup ("guards" : Str) = some (.ref aG) := zl (i := 1) (by decide +kernel) rfl
theorem lm_C {n : Int} {aG aC aB aJ aL : Addr} : (mFld n aG aC aB aJ aL).lookup ("_cells" : Str) = some (.ref aC) := zl (i := 2) (by decide +kernel) rfl
theorem lm_B {n : Int} {aG aC aB aJ aL : Addr} : (mFld n aG aC aB aJ aL).lookup ("_blocks" : Str) = some (.ref aB) := zl (i := 3) (by decide +kernel) rfl
theorem lm_J {n : Int} {aG aC aB aJ aL : Addr} : (mFld n aG aC aB aJ aL).lookup ("_journals" : Str) = some (.ref aJ) := zl (i := 4) (by decide +kernel) rfl
theorem lm_L {n : Int} {aG aC aB aJ aL : Addr} : (mFld n aG aC aB aJ aL).lookup ("_log" : Str) = some (.ref aL) := zl (i := 5) (by decide +kernel) rfl
/-- the entries' tuples -/
def EntT (kvs : List (Key × V)) (H : Hp) (t : Addr) (y : Int) : Prop := ∃ v, valV kvs (Sum.inl y : Key) = some v ∧ H t = some (.tup [.int y, v])
def spEntries (C : Addr) : Sp := fun vs H Q _ => ∃ (L : GL) (G : GS) (ks : List Int), vs = [.ref L.g] ∧ GuardAt C L H G ∧ G.ents.map (·.1) = ks.map Sum.inl ∧ ks.length < 64 ∧
  ∀ (p : Addr) (H' : Hp) (ys : List Int) (ts : List Addr), ys.Perm ks → ys.Pairwise (· ≤ ·) → H p = none → Same H H' → H' p = some (.lst (ts.map V.ref)) → Paired (EntT G.ents H') ts ys → Q (.ref p) H'
def spQueue (C : Addr) : Sp := fun vs H Q _ => ∃ (L : GL) (G : GS), vs = [.ref L.g] ∧ GuardAt C L H G ∧ ∀ (p : Addr), H p = none → Q (.ref p) (upd H p (.lst G.que))
section
variable {P : Program} {w : World} {K : PySem.W.Frag} {mg : Str → Option Value} {base : Heap}
theorem ok_Guard_entries (T : Top K mg) : FnC P w K mg base CX0 1 (He.ma K (He.ga K "Guard") "entries") (spEntries (CG K)) := by
  refine fnc0 T.d_Guard_entries sc_Guard_entries (fun _ _ _ _ _ _ us hl => match us, hl with | [_], _ => rfl) (fun vs H Q E h => ?_) (fun cdv A outer s H vs Q E hr h => ?_)
  · obtain ⟨L, G, ks, rfl, _⟩ := h
    rfl
  · obtain ⟨L, G, ks, rfl, hG, hk, hl, k⟩ := h
    have hu := hu_of hr
    refine ⟨_, (pss_one (ps_ret (pe_lc (own := [("page", 1)]) (g := gName 1) (tt := tYes) rfl sc_Guard_entries.nd (pi_list (pe_callB (call_sortedDI rfl) (by rfl) T.b_sorted (by decide +kernel) (pa_cons (pe_fld (pv 0) rfl) pa_nil))) (blkOk_by (N := ["self", "page"]) (sc := defScope s_Guard_entries) (by decide +kernel)) (fun _ _ _ _ _ => (pg_name (i := 1) sc_Guard_entries.nd rfl (Or.inl rfl))) (fun _ _ _ _ _ => pts_nil) (fun _ _ _ _ _ => (pe_tup (pa_cons (pv 1) (pa_cons (pe_dget hu (pe_fldK (K := K) rfl (pv 0) rfl) (pv 1) (fun _ _ => rfl)) pa_nil))))))), ?_⟩
    refine ⟨_, rfl, L.g, CG K, L.d, _, _, rfl, hG.og, T.cl_Guard, T.na_Guard__entries, lk_e, L.e, G.ents, ks, rfl, .inl hG.oe, hk, hl, fun ys p0 hp hs h0 => ?_⟩
    refine ⟨p0, rfl, ⟨_, SqL.of upd_same⟩, fun D hD => ?_⟩
    obtain ⟨nDp, hD0⟩ := free_upd hD
    have s0 : Same H (upd H p0 (.lst (ys.map V.int))) := Same.new (Same.refl H) h0
    refine lc_list (K := K) (a := p0) (xs := ys.map V.int) (fun i H1 => ∃ ts : List Addr, H1 D = some (.lst (ts.map V.ref)) ∧ Paired (EntT G.ents H1) ts (ys.take i) ∧ Same (upd H p0 (.lst (ys.map V.int))) H1) ?_ ?_ ?_ ?_
    · exact ⟨[], upd_same, .nil, Same.new (Same.refl _) hD⟩
    · rintro i H1 hi ⟨ts, _, _, s1⟩
      exact SqL.of (s1 _ _ upd_same)
    · rintro i x H1 hx ⟨ts, hL, hp1, s1⟩
      obtain ⟨y, hy, rfl⟩ : ∃ y, ys[i]? = some y ∧ x = V.int y := by
        rw [List.getElem?_map] at hx
        cases e : ys[i]? with
        | none =>
          rw [e] at hx
          cases hx
        | some y =>
          rw [e] at hx
          exact ⟨y, rfl, (Option.some.inj hx).symm⟩
      refine ⟨rfl, ?_⟩
      have hin : y ∈ ks := hp.mem_iff.mp (List.mem_of_getElem? hy)
      obtain ⟨v, hv⟩ : ∃ v, valV G.ents (Sum.inl y : Key) = some v := by
        have hm : (Sum.inl y : Key) ∈ G.ents.map (·.1) := by
          rw [hk]
          exact List.mem_map.mpr ⟨y, hin, rfl⟩
        cases e : valV G.ents (Sum.inl y : Key) with
        | some v => exact ⟨v, rfl⟩
        | none => exact absurd hm (valV_not e)
      have g1 : H1 L.g = _ := s1 _ _ (s0 _ _ hG.og)
      have e1 : H1 L.e = _ := s1 _ _ (s0 _ _ hG.oe)
      have dg : DGet H1 L.e (V.int y) (some v) := by
        rw [← hv]
        exact DGet.k (k := Sum.inl y) e1
      refine ⟨_, rfl, _, rfl, L.g, CG K, L.d, _, _, rfl, g1, T.cl_Guard, T.na_Guard__entries, lk_e, _, rfl, L.e, v, rfl, dg, (by show 2 ≤ sizeLine; decide), fun t ht => ?_⟩
      have s2 : Same H1 (upd H1 t (.tup [.int y, v])) := Same.new (Same.refl H1) ht
      have hD2 := s2 _ _ hL
      have ntD : t ≠ D := fun z => by
        rw [z, hL] at ht
        cases ht
      have s3 : Same (upd H p0 (.lst (ys.map V.int))) (upd (upd H1 t (.tup [.int y, v])) D (.lst (ts.map V.ref ++ [V.ref t]))) := fun b o hb => by
        rw [upd_ne (ne_of_none hb hD)]
        exact s2 b o (s1 b o hb)
      refine ⟨_, hD2, ?_, ts ++ [t], ?_, ?_, s3⟩
      · rw [List.length_map]
        have e : ts.length = (ys.take i).length := Paired.length hp1
        rw [e]
        have : (ys.take i).length ≤ ks.length := by
          rw [List.length_take, ← hp.length_eq]
          omega
        exact Nat.lt_of_le_of_lt (Nat.le_trans this (Nat.le_of_lt hl)) (by decide)
      · rw [upd_same, List.map_append]
        rfl
      · have e : ys.take (i + 1) = ys.take i ++ [y] := by
          rw [List.take_succ, hy]
          rfl
        rw [e]
        refine Paired.snoc (L2.Paired.mapP hp1 ?_) ?_
        · rintro a b ⟨v', q1, q2⟩
          refine ⟨v', q1, ?_⟩
          have na : a ≠ D := ne_of q2 hL (by intro z; cases z)
          rw [upd_ne na]
          exact s2 _ _ q2
        · exact ⟨v, hv, by rw [upd_ne ntD, upd_same]⟩
    · rintro H1 ⟨ts, hL, hp1, s1⟩
      rw [List.length_map, List.take_length] at hp1
      exact k D H1 ys ts hp hs hD0 (fun b o hb => s1 b o (s0 b o hb)) hL hp1
theorem ok_Guard_queue (T : Top K mg) : FnC P w K mg base CX0 1 (He.ma K (He.ga K "Guard") "queue") (spQueue (CG K)) := by
  refine fnc0 T.d_Guard_queue sc_Guard_queue (fun _ _ _ _ _ _ us hl => match us, hl with | [_], _ => rfl) (fun vs H Q E h => ?_) (fun cdv A outer s H vs Q E hr h => ?_)
  · obtain ⟨L, G, rfl, _⟩ := h
    rfl
  · obtain ⟨L, G, rfl, hG, k⟩ := h
    refine ⟨_, (pss_one (ps_ret (pe_callTy call_list_of (by rfl) T.b_list (by decide +kernel) (pa_cons (pe_fld (pv 0) rfl) pa_nil)))), ?_⟩
    exact ⟨_, rfl, L.g, CG K, L.d, _, _, rfl, hG.og, T.cl_Guard, T.na_Guard__queue, lk_q, L.q, G.que, rfl, .inl (SqL.of hG.oq), k⟩
end
end Rb
namespace Rb
open PySem PySem.Spec PyProof.Rows L2
abbrev NV (K : PySem.W.Frag) : Value := .ref (He.ga K "NotValid")
/-- a number within its bounds is an index -/
theorem isNum_at {v : V} {n : Nat} (h : isNum v (n : Int) = true) : ∃ j : Nat, v = .int (j : Int) ∧ j < n := by
  cases v with
  | int i =>
    have h' : (decide (0 ≤ i) && decide (i < (n : Int))) = true := h
    obtain ⟨a, b⟩ := and2 h'
    have a := of_decide_eq_true a
    have b := of_decide_eq_true b
    exact ⟨i.toNat, congrArg V.int (by omega), by omega⟩
  | _ => cases h
theorem isNum_nat {j n : Nat} (h : j < n) : isNum (.int (j : Int)) (n : Int) = true := by
  show (decide ((0 : Int) ≤ j) && decide ((j : Int) < n)) = true
  rw [decide_eq_true (by omega : (0 : Int) ≤ j), decide_eq_true (by omega : (j : Int) < n)]
  rfl
theorem atI_n {α : Type} {xs : List α} {j : Nat} {x : α} (h : xs[j]? = some x) : atI xs (j : Int) = some x := by
  unfold atI ixN
  have hj : j < xs.length := (List.getElem?_eq_some_iff.mp h).1
  rw [if_pos (by omega), if_pos (by omega)]
  simpa using h
def spPeek (K : PySem.W.Frag) : Sp := fun vs H Q E => ∃ (L : ML) (M : MS) (v : V) (N : String), vs = [.ref L.m, v] ∧ MemAt (CM K) (CG K) L H M ∧ TyB K H v N ∧
  (∀ (j : Nat) (x : V), v = .int (j : Int) → M.cells[j]? = some x → Q x H) ∧ (isNum v (M.cells.length : Int) = false → E (NV K) none H)
def spJournal (K : PySem.W.Frag) : Sp := fun vs H Q E => ∃ (L : ML) (M : MS) (v : V) (N : String), vs = [.ref L.m, v] ∧ MemAt (CM K) (CG K) L H M ∧ TyB K H v N ∧ M.jo.length = 2 ∧
  (∀ (j : Nat) (x : V), v = .int (j : Int) → M.jo[j]? = some x → Q x H) ∧ (isNum v 2 = false → E (NV K) none H)
def spBlock (K : PySem.W.Frag) : Sp := fun vs H Q E => ∃ (L : ML) (M : MS) (v u : V) (N N' : String), vs = [.ref L.m, v, u] ∧ MemAt (CM K) (CG K) L H M ∧ TyB K H v N ∧ TyB K H u N' ∧ (∀ d, d < 2 → (M.bl d).length = 8) ∧
  (∀ (d j : Nat) (x : V), d < 2 → v = .int (d : Int) → u = .int (j : Int) → (M.bl d)[j]? = some x → Q x H) ∧ (isNum v 2 = false ∨ isNum u 8 = false → E (NV K) none H)
def spLog (K : PySem.W.Frag) : Sp := fun vs H Q _ => ∃ (L : ML) (M : MS), vs = [.ref L.m] ∧ MemAt (CM K) (CG K) L H M ∧ ∀ p, H p = none → Q (.ref p) (upd H p (.lst M.log))
section
variable {P : Program} {w : World} {K : PySem.W.Frag} {mg : Str → Option Value} {base : Heap}
theorem ok_journal (T : Top K mg) : FnC P w K mg base (L2.CX P w) 4 (He.ma K (He.ga K "Memory") "journal") (spJournal K) := by
  have G_is_number := ok_is_number (P := P) (w := w) (base := base) T
  have G_NotValid___init__ := ok_NotValid_init (P := P) (w := w) (base := base) T
  refine fnc T.d_Memory_journal sc_Memory_journal (fun _ _ _ _ _ _ us hl => match us, hl with | [_, _], _ => rfl) (fun vs H Q E h => ?_) (fun cdv A outer s H vs Q E hr h => ?_)
  · obtain ⟨L, M, v, N, rfl, _⟩ := h
    rfl
  · obtain ⟨L, M, v, N, rfl, hM, hN, hj2, k, ke⟩ := h
    refine ⟨_, (pss_cons (ps_if (pt_not (pt_val (pe_f G_is_number hr (by decide) (by rfl) T.g_is_number pass0 (pa_cons (pv 1) (pa_cons (pe_gc (by rfl) T.c_DEVICES) pa_nil))))) (pss_one (ps_raise rfl (takes_of rfl rfl rfl rfl) (pmk_bare T.ex_NotValid T.ini_NotValid T.ity_NotValid G_NotValid___init__ hr (by decide) pass0 (by rfl) T.g_NotValid))) pss_nil)
    (pss_one (ps_ret (pe_ix ix_list (pe_fld (pv 0) rfl) (pv 1) (fun _ _ => rfl))))), ?_⟩
    refine ⟨_, rfl, v, N, _, rfl, hN, _, rfl, ?_⟩
    cases e : isNum v 2 with
    | false => exact ⟨fun a ha => ⟨a, _, rfl, T.ex_NotValid, upd_same, rfl, rfl⟩, ke e⟩
    | true =>
      obtain ⟨j, rfl, hj⟩ := isNum_at (n := 2) e
      have hx : M.jo[j]? = some (M.jo[j]'(by omega)) := List.getElem?_eq_getElem (by omega)
      exact ⟨_, rfl, L.m, CM K, L.d, _, _, rfl, hM.om, T.cl_Memory, T.na_Memory__journals, lm_J, _, rfl, L.aJ, M.jo, _, _, rfl, rfl, SqL.of hM.oj, atI_n hx, k j _ rfl hx⟩
theorem ok_block (T : Top K mg) : FnC P w K mg base (L2.CX P w) 4 (He.ma K (He.ga K "Memory") "block") (spBlock K) := by
  have G_is_number := ok_is_number (P := P) (w := w) (base := base) T
  have G_NotValid___init__ := ok_NotValid_init (P := P) (w := w) (base := base) T
  refine fnc T.d_Memory_block sc_Memory_block (fun _ _ _ _ _ _ us hl => match us, hl with | [_, _, _], _ => rfl) (fun vs H Q E h => ?_) (fun cdv A outer s H vs Q E hr h => ?_)
  · obtain ⟨L, M, v, u, N, N', rfl, _⟩ := h
    rfl
  · obtain ⟨L, M, v, u, N, N', rfl, hM, hN, hN', h8, k, ke⟩ := h
    refine ⟨_, (pss_cons (ps_if (PW.pt (pw_or (pt_not (pt_val (pe_f G_is_number hr (by decide) (by rfl) T.g_is_number pass0 (pa_cons (pv 1) (pa_cons (pe_gc (by rfl) T.c_DEVICES) pa_nil))))) (pw_or1 (pt_not (pt_val (pe_f G_is_number hr (by decide) (by rfl) T.g_is_number pass0 (pa_cons (pv 2) (pa_cons (pe_gc (by rfl) T.c_BLOCKS) pa_nil)))))))) (pss_one (ps_raise rfl (takes_of rfl rfl rfl rfl) (pmk_bare T.ex_NotValid T.ini_NotValid T.ity_NotValid G_NotValid___init__ hr (by decide) pass0 (by rfl) T.g_NotValid))) pss_nil)
    (pss_one (ps_ret (pe_ix ix_list (pe_ix ix_list (pe_fld (pv 0) rfl) (pv 1) (fun _ _ => rfl)) (pv 2) (fun _ _ => rfl))))), ?_⟩
    refine ⟨_, rfl, v, N, _, rfl, hN, _, rfl, ?_⟩
    cases e : isNum v 2 with
    | false => exact ⟨fun a ha => ⟨a, _, rfl, T.ex_NotValid, upd_same, rfl, rfl⟩, ke (.inl e)⟩
    | true =>
      refine ⟨_, rfl, u, N', _, rfl, hN', _, rfl, ?_⟩
      cases e' : isNum u 8 with
      | false => exact ⟨fun a ha => ⟨a, _, rfl, T.ex_NotValid, upd_same, rfl, rfl⟩, ke (.inr e')⟩
      | true =>
        obtain ⟨d, rfl, hd⟩ := isNum_at (n := 2) e
        obtain ⟨j, rfl, hj⟩ := isNum_at (n := 8) e'
        have hx : (M.bl d)[j]? = some ((M.bl d)[j]'(by rw [h8 d hd]; exact hj)) := List.getElem?_eq_getElem (by rw [h8 d hd]; exact hj)
        have hb : ([V.ref (L.bl 0), V.ref (L.bl 1)] : List V)[d]? = some (V.ref (L.bl d)) := by
          rcases lt2 hd with rfl | rfl <;> rfl
        exact ⟨_, rfl, L.m, CM K, L.d, _, _, rfl, hM.om, T.cl_Memory, T.na_Memory__blocks, lm_B, _, rfl, L.aB, _, _, _, rfl, rfl, SqL.of hM.ob, atI_n hb, _, rfl, L.bl d, M.bl d, _, _, rfl, rfl, SqL.of (hM.obl d hd), atI_n hx, k d j _ hd rfl rfl hx⟩
theorem ok_log (T : Top K mg) : FnC P w K mg base CX0 1 (He.ma K (He.ga K "Memory") "log") (spLog K) := by
  refine fnc0 T.d_Memory_log sc_Memory_log (fun _ _ _ _ _ _ us hl => match us, hl with | [_], _ => rfl) (fun vs H Q E h => ?_) (fun cdv A outer s H vs Q E hr h => ?_)
  · obtain ⟨L, M, rfl, _⟩ := h
    rfl
  · obtain ⟨L, M, rfl, hM, k⟩ := h
    refine ⟨_, (pss_one (ps_ret (pe_callTy call_list_of (by rfl) T.b_list (by decide +kernel) (pa_cons (pe_fld (pv 0) rfl) pa_nil)))), ?_⟩
    exact ⟨_, rfl, L.m, CM K, L.d, _, _, rfl, hM.om, T.cl_Memory, T.na_Memory__log, lm_L, L.aL, M.log, rfl, .inl (SqL.of hM.ol), k⟩
end
end Rb
namespace Rb
open PySem PySem.Spec PyProof.Rows L2
def spIsValue (K : PySem.W.Frag) : Sp := fun vs H Q _ => ∃ (v : V) (d : PyData), vs = [v] ∧ Dp K H v d ∧ noL d = true ∧ sz d ≤ 4000 ∧ ∀ H', Same H H' → Q (.bl (isVal d)) H'
section
variable {P : Program} {w : World} {K : PySem.W.Frag} {mg : Str → Option Value} {base : Heap}
theorem ok_is_value (T : Top K mg) : FnC P w K mg base CX0 1 (He.ga K "is_value") (spIsValue K) := by
  refine fnc0 T.d_is_value sc_is_value (fun _ _ _ _ _ _ us hl => match us, hl with | [_], _ => rfl) (fun vs H Q E h => ?_) (fun cdv A outer s H vs Q E hr h => ?_)
  · obtain ⟨v, d, rfl, _⟩ := h
    rfl
  · obtain ⟨v, d, rfl, hd, nl, hz, k⟩ := h
    refine ⟨_, (pss_cons (ps_set (i := 1) sc_is_value.nd rfl (Or.inl rfl) (pe_lst (pa_cons (pv 0) pa_nil)))
    (pss_cons (ps_while PassesOwn.never (pt_truth (pv 1) (fun _ => rfl)) (pss_cons (ps_set (i := 2) sc_is_value.nd rfl (Or.inl rfl) (pe_bm0 PySem.F.plainAttrs_list PySem.F.slot_list_pop PySem.F.type_list_pop mt_pop (pv 1)))
    (pss_one (ps_if (pt_cmpR op_isTyB (pe_callTy call_type1 (by rfl) T.b_type (by decide +kernel) (pa_cons (pv 2) pa_nil)) (pe_bltn (v := .ty "tuple") (by rfl) T.b_tuple (by decide +kernel) rfl) (nomark _)) (pss_one (ps_expr (pe_bm PySem.F.plainAttrs_list PySem.F.slot_list_extend PySem.F.type_list_extend mt_extT (pv 1) (pa_cons (pv 2) pa_nil)))) (pss_one (ps_if (PW.pt (pw_and (pt_cmp (pc_notN (pv 2))) (pw_and1 (pt_cmpR op_notInTy (pe_callTy call_type1 (by rfl) T.b_type (by decide +kernel) (pa_cons (pv 2) pa_nil)) (pe_tup (pa_cons (pe_bltn (v := .ty "int") (by rfl) T.b_int (by decide +kernel) rfl) (pa_cons (pe_bltn (v := .ty "str") (by rfl) T.b_str (by decide +kernel) rfl) pa_nil))) rfl)))) (pss_one (ps_ret pe_bl)) pss_nil))))))
    (pss_one (ps_ret pe_bl)))), ?_⟩
    refine ⟨_, rfl, (by rw [sizeLine_eq]; show 1 ≤ _; omega), fun p hp => ?_⟩
    have s0 : Same H (upd H p (.lst [v])) := Same.new (Same.refl H) hp
    refine ⟨fun m σ H1 => ∃ vs ds pt, σ = [some v, some (.ref p), pt] ∧ H1 p = some (.lst vs) ∧ DpAll K H1 vs ds ∧ noLs ds = true ∧ isVals ds = isVal d ∧ szs ds ≤ 4000 ∧ Same H H1 ∧ m = szs ds, ?_, ?_⟩
    · have hd' : Dp K (upd H p (.lst [v])) v d := Dp.ts (TSame.same s0) d v nl hd
      refine ⟨_, [v], [d], none, rfl, upd_same, .cons hd' .nil, ?_, ?_, ?_, s0, rfl⟩
      · show (noL d && true) = true
        rw [nl]
        rfl
      · show (isVal d && true) = isVal d
        rw [Bool.and_true]
      · show sz d + 0 ≤ 4000
        exact hz
    · rintro m σ H1 ⟨vs, ds, pt, rfl, hH, hD, hn, hv, hs, sm, rfl⟩
      refine ⟨_, rfl, _, .inl ⟨vs, SqL.of hH, rfl⟩, ?_⟩
      by_cases ne : vs = []
      · subst ne
        cases hD
        have e : isVal d = true := hv.symm
        have kk := k H1 sm
        rw [e] at kk
        exact kk
      · obtain ⟨ws, x, es, d1, e1, e2, hA, hX⟩   := Rb.DpAll.last hD ne
        subst e1 e2
        rw [noLs_app] at hn
        obtain ⟨n1, n2⟩ := and2 hn
        have n3 : noL d1 = true := (and2 (show (noL d1 && true) = true from n2)).1
        rw [isVals_app] at hv
        have hv' : (isVals es && isVal d1) = isVal d := by
          rw [← hv]
          show _ = (isVals es && (isVal d1 && true))
          rw [Bool.and_true]
        rw [szs_app] at hs
        have hs' : szs es + sz d1 ≤ 4000 := hs
        have eb : (!(ws ++ [x]).isEmpty) = true := by simp
        rw [eb]
        rw [if_pos rfl]
        refine ⟨fun σ' H' => ∃ vs' ds' pt', σ' = [some v, some (.ref p), pt'] ∧ H' p = some (.lst vs') ∧ DpAll K H' vs' ds' ∧ noLs ds' = true ∧ isVals ds' = isVal d ∧ szs ds' ≤ 4000 ∧ Same H H' ∧ szs ds' < szs (es ++ [d1]), ?_, ?_⟩
        · rintro σ' H' ⟨vs', ds', pt', a1, a2, a3, a4, a5, a6, a7, a8⟩
          exact ⟨_, a8, vs', ds', pt', a1, a2, a3, a4, a5, a6, a7, rfl⟩
        · have hl : (ws ++ [x])[(ws ++ [x]).length - 1]? = some x := by simp
          have dl : (ws ++ [x]).dropLast = ws := by simp
          have t1 : TSame K H1 (upd H1 p (.lst ws)) := TSame.lst hH
          have hX1 : Dp K (upd H1 p (.lst ws)) x d1 := Dp.ts t1 d1 x n3 hX
          have hA1 : DpAll K (upd H1 p (.lst ws)) ws es := DpAll.ts t1 es ws n1 hA
          have sm1 : Same H (upd H1 p (.lst ws)) := Same.new sm hp
          refine ⟨_, rfl, .inl ⟨rfl, _, SqL.of hH⟩, p, ws ++ [x], x, rfl, rfl, hH, hl, ?_⟩
          rw [dl]
          refine ⟨_, rfl, _, _, rfl, Rb.Dp.ty hX1, _, _, rfl, rfl, ?_⟩
          cases d1 with
          | tuple fs =>
            refine ⟨_, rfl, ?_⟩
            show if decide ("tuple" = "tuple") = true then _ else _
            rw [if_pos (by decide)]
            cases hX1 with
            | @tup a xs _ hq ha =>
              have hle : ws.length + xs.length ≤ 4000 := by
                have l1 := Rb.DpAll.len hA
                have l2 := Rb.DpAll.len ha
                have := len_szs es
                have := len_szs fs
                have e3 : sz (.tuple fs) = szs fs + 1 := rfl
                omega
              have t2 : TSame K (upd H1 p (.lst ws)) (upd (upd H1 p (.lst ws)) p (.lst (ws ++ xs))) := TSame.lst upd_same
              refine ⟨_, rfl, .inl ⟨rfl, _, SqL.of upd_same⟩, _, rfl, p, a, ws, xs, rfl, rfl, upd_same, hq, ?_, ?_⟩
              · rw [sizeLine_eq]
                omega
              · refine ⟨ws ++ xs, es ++ fs, _, rfl, upd_same, Rb.DpAll.app (DpAll.ts t2 es ws n1 hA1) (DpAll.ts t2 fs xs n3 ha), ?_, ?_, ?_, Same.new sm1 hp, ?_⟩
                · rw [noLs_app, n1]
                  exact n3
                · rw [isVals_app]
                  exact hv'
                · rw [szs_app]
                  have e3 : sz (.tuple fs) = szs fs + 1 := rfl
                  omega
                · rw [szs_app, szs_app]
                  show _ < szs es + (szs fs + 1 + 0)
                  omega
          | none =>
            refine ⟨_, rfl, ?_⟩
            show if decide ("NoneType" = "tuple") = true then _ else _
            rw [if_neg (by decide)]
            cases hX1
            refine ⟨_, rfl, _, rfl, ?_⟩
            show if (!decide (V.non = V.non)) = true then _ else _
            rw [show (!decide (V.non = V.non)) = false by simp]
            rw [if_neg Bool.false_ne_true]
            refine ⟨ws, es, _, rfl, upd_same, hA1, n1, ?_, ?_, sm1, ?_⟩
            · rw [← hv']
              show _ = (isVals es && true)
              rw [Bool.and_true]
            · omega
            · rw [szs_app]
              show _ < szs es + (1 + 0)
              omega
          | int i =>
            refine ⟨_, rfl, ?_⟩
            show if decide ("int" = "tuple") = true then _ else _
            rw [if_neg (by decide)]
            cases hX1
            refine ⟨_, rfl, _, rfl, ?_⟩
            show if (!decide (V.int i = V.non)) = true then _ else _
            rw [show (!decide (V.int i = V.non)) = true by simp]
            rw [if_pos rfl]
            refine ⟨_, rfl, _, _, rfl, .int i, (by rw [sizeLine_eq]; show 2 ≤ _; omega), fun p2 hp2 => ⟨_, p2, ["int", "str"], rfl, rfl, SqT.of upd_same, by decide, by decide, _, rfl, ?_⟩⟩
            show if (!["int", "str"].contains "int") = true then _ else _
            rw [if_neg (by decide)]
            have sm2 : Same H (upd (upd H1 p (.lst ws)) p2 (.tup [.ty "int", .ty "str"])) := Same.new sm1 (sm1.free hp2)
            have ne2 : p2 ≠ p := fun e => by
              rw [e, upd_same] at hp2
              cases hp2
            refine ⟨ws, es, _, rfl, ?_, DpAll.ts (TSame.same (Same.new (Same.refl _) hp2)) es ws n1 hA1, n1, ?_, ?_, sm2, ?_⟩
            · rw [upd_ne (Ne.symm ne2)]
              exact upd_same
            · rw [← hv']
              show _ = (isVals es && true)
              rw [Bool.and_true]
            · omega
            · rw [szs_app]
              show _ < szs es + (1 + 0)
              omega
          | str x =>
            refine ⟨_, rfl, ?_⟩
            show if decide ("str" = "tuple") = true then _ else _
            rw [if_neg (by decide)]
            cases hX1
            refine ⟨_, rfl, _, rfl, ?_⟩
            show if (!decide (V.str x = V.non)) = true then _ else _
            rw [show (!decide (V.str x = V.non)) = true by simp]
            rw [if_pos rfl]
            refine ⟨_, rfl, _, _, rfl, .str x, (by rw [sizeLine_eq]; show 2 ≤ _; omega), fun p2 hp2 => ⟨_, p2, ["int", "str"], rfl, rfl, SqT.of upd_same, by decide, by decide, _, rfl, ?_⟩⟩
            show if (!["int", "str"].contains "str") = true then _ else _
            rw [if_neg (by decide)]
            have sm2 : Same H (upd (upd H1 p (.lst ws)) p2 (.tup [.ty "int", .ty "str"])) := Same.new sm1 (sm1.free hp2)
            have ne2 : p2 ≠ p := fun e => by
              rw [e, upd_same] at hp2
              cases hp2
            refine ⟨ws, es, _, rfl, ?_, DpAll.ts (TSame.same (Same.new (Same.refl _) hp2)) es ws n1 hA1, n1, ?_, ?_, sm2, ?_⟩
            · rw [upd_ne (Ne.symm ne2)]
              exact upd_same
            · rw [← hv']
              show _ = (isVals es && true)
              rw [Bool.and_true]
            · omega
            · rw [szs_app]
              show _ < szs es + (1 + 0)
              omega
          | bool b =>
            refine ⟨_, rfl, ?_⟩
            show if decide ("bool" = "tuple") = true then _ else _
            rw [if_neg (by decide)]
            cases hX1
            refine ⟨_, rfl, _, rfl, ?_⟩
            show if (!decide (V.bl b = V.non)) = true then _ else _
            rw [show (!decide (V.bl b = V.non)) = true by simp]
            rw [if_pos rfl]
            refine ⟨_, rfl, _, _, rfl, .bl b, (by rw [sizeLine_eq]; show 2 ≤ _; omega), fun p2 hp2 => ⟨_, p2, ["int", "str"], rfl, rfl, SqT.of upd_same, by decide, by decide, _, rfl, ?_⟩⟩
            show if (!["int", "str"].contains "bool") = true then _ else _
            rw [if_pos (by decide)]
            have sm2 : Same H (upd (upd H1 p (.lst ws)) p2 (.tup [.ty "int", .ty "str"])) := Same.new sm1 (sm1.free hp2)
            have e5 : isVal d = false := by
              rw [← hv']
              show (isVals es && false) = false
              rw [Bool.and_false]
            have kk := k _ sm2
            rw [e5] at kk
            exact kk
          | list _ => cases n3
          | dict _ => cases n3
end
end Rb
namespace Rb
open PySem PySem.Spec PyProof.Rows L2
/-! ### where a cell stands -/
def stIn (c f n : Int) : Bool := decide (f ≤ c) && decide (c < f + n)
def isReg (d c : Int) : Bool := stIn c (dbell d) 4
def isTw (d c : Int) : Bool := stIn c (tword d 0) 6
def mayR (role : Str) (d c : Int) : Bool := if role == "device" then isReg d c else stIn c (fcell d 0 0) 24 || (isReg d c || (isTw d c || decide (c = ackw d)))
def sp3b (g : Int → Int → Int → Bool) : Sp := fun vs H Q _ => ∃ a b c : Int, vs = [.int a, .int b, .int c] ∧ Q (.bl (g a b c)) H
def sp2b (g : Int → Int → Bool) : Sp := fun vs H Q _ => ∃ a b : Int, vs = [.int a, .int b] ∧ Q (.bl (g a b)) H
def spMayR : Sp := fun vs H Q _ => ∃ (r : Str) (a b : Int), vs = [.str r, .int a, .int b] ∧ Q (.bl (mayR r a b)) H
section
variable {P : Program} {w : World} {K : PySem.W.Frag} {mg : Str → Option Value} {base : Heap}
theorem ok_stands_in (T : Top K mg) : FnC P w K mg base CX0 1 (He.ga K "stands_in") (sp3b stIn) := by
  refine fnc0 T.d_stands_in sc_stands_in (fun _ _ _ _ _ _ us hl => match us, hl with | [_, _, _], _ => rfl) (fun vs H Q E h => ?_) (fun cdv A outer s H vs Q E hr h => ?_)
  · obtain ⟨a, b, c, rfl, _⟩ := h
    rfl
  · obtain ⟨a, b, c, rfl, k⟩ := h
    refine ⟨_, (pss_one (ps_ret (pe_chain op_le op_lt (pv 1) (pv 0) (pe_op op_add (pv 1) (pv 2))))), ?_⟩
    refine ⟨_, rfl, _, rfl, _, _, rfl, rfl, _, rfl, ?_⟩
    show if decide (b ≤ a) = true then _ else _
    by_cases e : b ≤ a
    · rw [if_pos (decide_eq_true e)]
      refine ⟨_, rfl, _, rfl, _, _, rfl, rfl, _, _, rfl, rfl, ?_⟩
      have q : stIn a b c = decide (a < b + c) := by
        unfold stIn
        rw [decide_eq_true e, Bool.true_and]
      rw [q] at k
      exact k
    · rw [if_neg (by rw [decide_eq_false e]; exact Bool.false_ne_true)]
      have q : stIn a b c = false := by
        unfold stIn
        rw [decide_eq_false e, Bool.false_and]
      rw [q] at k
      exact k
theorem ok_is_register (T : Top K mg) : FnC P w K mg base CX0 3 (He.ga K "is_register") (sp2b isReg) := by
  have G_stands_in := ok_stands_in (P := P) (w := w) (base := base) T
  have G_doorbell := ok_doorbell (P := P) (w := w) (base := base) T
  refine fnc0 T.d_is_register sc_is_register (fun _ _ _ _ _ _ us hl => match us, hl with | [_, _], _ => rfl) (fun vs H Q E h => ?_) (fun cdv A outer s H vs Q E hr h => ?_)
  · obtain ⟨a, b, rfl, _⟩ := h
    rfl
  · obtain ⟨a, b, rfl, k⟩ := h
    refine ⟨_, (pss_one (ps_ret (pe_f G_stands_in hr (by decide) (by rfl) T.g_stands_in pass0 (pa_cons (pv 1) (pa_cons (pe_f G_doorbell hr (by decide) (by rfl) T.g_doorbell pass0 (pa_cons (pv 0) pa_nil)) (pa_cons (pe_gc (by rfl) T.c_REGISTERS) pa_nil)))))), ?_⟩
    exact ⟨_, rfl, _, rfl, _, rfl, _, _, _, rfl, k⟩
theorem ok_is_table_word (T : Top K mg) : FnC P w K mg base CX0 4 (He.ga K "is_table_word") (sp2b isTw) := by
  have G_stands_in := ok_stands_in (P := P) (w := w) (base := base) T
  have G_table_word := ok_table_word (P := P) (w := w) (base := base) T
  refine fnc0 T.d_is_table_word sc_is_table_word (fun _ _ _ _ _ _ us hl => match us, hl with | [_, _], _ => rfl) (fun vs H Q E h => ?_) (fun cdv A outer s H vs Q E hr h => ?_)
  · obtain ⟨a, b, rfl, _⟩ := h
    rfl
  · obtain ⟨a, b, rfl, k⟩ := h
    refine ⟨_, (pss_one (ps_ret (pe_f G_stands_in hr (by decide) (by rfl) T.g_stands_in pass0 (pa_cons (pv 1) (pa_cons (pe_f G_table_word hr (by decide) (by rfl) T.g_table_word pass0 (pa_cons (pv 0) (pa_cons pe_int pa_nil))) (pa_cons (pe_gc (by rfl) T.c_PAGES) pa_nil)))))), ?_⟩
    exact ⟨_, rfl, _, rfl, _, _, rfl, _, _, _, rfl, k⟩
theorem ok_may_reach (T : Top K mg) : FnC P w K mg base CX0 5 (He.ga K "may_reach") spMayR := by
  have G_stands_in := ok_stands_in (P := P) (w := w) (base := base) T
  have G_frame_cell := ok_frame_cell (P := P) (w := w) (base := base) T
  have G_is_register := ok_is_register (P := P) (w := w) (base := base) T
  have G_is_table_word := ok_is_table_word (P := P) (w := w) (base := base) T
  have G_acknowledge := ok_acknowledge (P := P) (w := w) (base := base) T
  refine fnc0 T.d_may_reach sc_may_reach (fun _ _ _ _ _ _ us hl => match us, hl with | [_, _, _], _ => rfl) (fun vs H Q E h => ?_) (fun cdv A outer s H vs Q E hr h => ?_)
  · obtain ⟨r, a, b, rfl, _⟩ := h
    rfl
  · obtain ⟨r, a, b, rfl, k⟩ := h
    refine ⟨_, (pss_cons (ps_if (pt_cmpR op_eq (pv 0) pe_str (nomark _)) (pss_one (ps_ret (pe_f G_is_register hr (by decide) (by rfl) T.g_is_register pass0 (pa_cons (pv 1) (pa_cons (pv 2) pa_nil))))) pss_nil)
    (pss_cons (ps_set (i := 3) sc_may_reach.nd rfl (Or.inl rfl) (pe_f G_stands_in hr (by decide) (by rfl) T.g_stands_in pass0 (pa_cons (pv 2) (pa_cons (pe_f G_frame_cell hr (by decide) (by rfl) T.g_frame_cell pass0 (pa_cons (pv 1) (pa_cons pe_int (pa_cons pe_int pa_nil)))) (pa_cons (pe_op op_mul (pe_gc (by rfl) T.c_FRAMES) (pe_gc (by rfl) T.c_CELLS)) pa_nil)))))
    (pss_cons (ps_set (i := 4) sc_may_reach.nd rfl (Or.inl rfl) (pe_or (pe_f G_is_table_word hr (by decide) (by rfl) T.g_is_table_word pass0 (pa_cons (pv 1) (pa_cons (pv 2) pa_nil))) (pe_one (pe_cmpR op_eq (pv 2) (pe_f G_acknowledge hr (by decide) (by rfl) T.g_acknowledge pass0 (pa_cons (pv 1) pa_nil)) (nomark _)))))
    (pss_one (ps_ret (pe_or (pv 3) (pe_or (pe_f G_is_register hr (by decide) (by rfl) T.g_is_register pass0 (pa_cons (pv 1) (pa_cons (pv 2) pa_nil))) (pe_one (pv 4))))))))), ?_⟩
    refine ⟨_, rfl, rfl, _, rfl, ?_⟩
    show if decide (V.str r = V.str "device") = true then _ else _
    by_cases e : r = ("device" : Str)
    · have q : mayR r a b = isReg a b := by
        unfold mayR
        rw [if_pos (by rw [e]; exact beq_self_eq_true _)]
      rw [q] at k
      rw [if_pos (decide_eq_true (by rw [e]))]
      exact ⟨_, rfl, _, rfl, _, _, rfl, k⟩
    · have q : mayR r a b = (stIn b (fcell a 0 0) 24 || (isReg a b || (isTw a b || decide (b = ackw a)))) := by
        unfold mayR
        rw [if_neg (by rw [beq_iff_eq]; exact e)]
      rw [q] at k
      rw [if_neg (by rw [decide_eq_true_eq]; intro z; exact e (by injection z))]
      refine ⟨_, rfl, _, rfl, _, _, _, rfl, _, _, rfl, rfl, .inr ⟨by decide, by decide⟩, _, _, _, rfl, ?_⟩
      dsimp only [gName, tSeq, tAsg, tRet]
      refine (val_orV (a := isTw a b) (b := decide (b = ackw a)) ?_ ?_) _ ?_
      · exact fun Q q => ⟨_, rfl, _, rfl, _, _, rfl, q⟩
      · refine fun Q q => ⟨_, rfl, _, rfl, _, rfl, rfl, ?_⟩
        rw [dec_int]
        exact q
      · show tOrV _ _ _ _ _
        exact (val_orV (a := stIn b (fcell a 0 0) 24) (b := isReg a b || (isTw a b || decide (b = ackw a))) (fun Q q => ⟨_, rfl, q⟩)
          (val_orV (a := isReg a b) (b := isTw a b || decide (b = ackw a)) (fun Q q => ⟨_, rfl, _, rfl, _, _, rfl, q⟩) (fun Q q => ⟨_, rfl, q⟩))) _ k
end
end Rb
namespace Rb
open PySem PySem.Spec PyProof.Rows L2
/-! ### the parts of a request -/
def isNumD : PyData → Int → Bool
  | .int i, l => decide (0 ≤ i) && decide (i < l)
  | _, _ => false
theorem isNumD_of {K : PySem.W.Frag} {H : Hp} {v : V} {d : PyData} {l : Int} (h : Dp K H v d) : isNum v l = isNumD d l := by
  cases h <;> rfl
def isTupV : PyData → Bool
  | .tuple ds => isVals ds
  | _ => false
def lenD : PyData → Nat
  | .tuple ds => ds.length
  | _ => 0
def fitsD (k : Str) (d : PyData) : Bool :=
  if k == "page" then isNumD d 6 else if k == "index" then isNumD d 4 else if k == "block" then isNumD d 8 else if k == "value" then isVal d
  else if k == "values" then isTupV d && decide (lenD d = 4) else if k == "rows" then isTupV d else decide (tyOf d = "int")
def spTupV (K : PySem.W.Frag) : Sp := fun vs H Q _ => ∃ (v : V) (d : PyData), vs = [v] ∧ Dp K H v d ∧ noL d = true ∧ sz d ≤ 4000 ∧ ∀ H', Same H H' → Q (.bl (isTupV d)) H'
def spFits (K : PySem.W.Frag) : Sp := fun vs H Q _ => ∃ (k : Str) (v : V) (d : PyData), vs = [.str k, v] ∧ Dp K H v d ∧ noL d = true ∧ sz d ≤ 4000 ∧ ∀ H', Same H H' → Q (.bl (fitsD k d)) H'
section
variable {P : Program} {w : World} {K : PySem.W.Frag} {mg : Str → Option Value} {base : Heap}
theorem ok_is_tuple_of_values (T : Top K mg) : FnC P w K mg base CX0 2 (He.ga K "is_tuple_of_values") (spTupV K) := by
  have G_is_value := ok_is_value (P := P) (w := w) (base := base) T
  refine fnc0 T.d_is_tuple_of_values sc_is_tuple_of_values (fun _ _ _ _ _ _ us hl => match us, hl with | [_], _ => rfl) (fun vs H Q E h => ?_) (fun cdv A outer s H vs Q E hr h => ?_)
  · obtain ⟨v, d, rfl, _⟩ := h
    rfl
  · obtain ⟨v, d, rfl, hd, nl, hz, k⟩ := h
    refine ⟨_, (pss_one (ps_ret (pe_and (pe_cmpR op_isTyB (pe_callTy call_type1 (by rfl) T.b_type (by decide +kernel) (pa_cons (pv 0) pa_nil)) (pe_bltn (v := .ty "tuple") (by rfl) T.b_tuple (by decide +kernel) rfl) (nomark _)) (pe_one (pe_f G_is_value hr (by decide) (by rfl) T.g_is_value pass0 (pa_cons (pv 0) pa_nil)))))), ?_⟩
    refine ⟨_, rfl, _, _, rfl, Rb.Dp.ty hd, _, _, rfl, rfl, _, rfl, ?_⟩
    show if decide (tyOf d = "tuple") = true then _ else _
    by_cases e : tyOf d = "tuple"
    · rw [if_pos (decide_eq_true e)]
      refine ⟨_, rfl, v, d, rfl, hd, nl, hz, fun H' s => ?_⟩
      have kk := k H' s
      cases d with
      | tuple ds => exact kk
      | _ => simp [tyOf] at e
    · rw [if_neg (by rw [decide_eq_false e]; exact Bool.false_ne_true)]
      have kk := k H (Same.refl H)
      cases d with
      | tuple ds => exact absurd rfl e
      | _ => exact kk
theorem Dp.len {H : Hp} {v : V} {d : PyData} (h : Dp K H v d) (e : tyOf d = "tuple") : ∃ a xs, v = .ref a ∧ SqT K H a xs ∧ xs.length = lenD d := by
  cases h with
  | tup hs ha => exact ⟨_, _, rfl, hs, Rb.DpAll.len ha⟩
  | _ => simp [tyOf] at e
theorem dec_s {i j : Str} : decide (V.str i = V.str j) = (i == j) := by
  rw [Bool.eq_iff_iff]
  simp
theorem ok_fits (T : Top K mg) : FnC P w K mg base CX0 3 (He.ga K "fits") (spFits K) := by
  have G_is_number := ok_is_number (P := P) (w := w) (base := base) T
  have G_is_value := ok_is_value (P := P) (w := w) (base := base) T
  have G_is_tuple_of_values := ok_is_tuple_of_values (P := P) (w := w) (base := base) T
  have G_is_integer := ok_is_integer (P := P) (w := w) (base := base) T
  refine fnc0 T.d_fits sc_fits (fun _ _ _ _ _ _ us hl => match us, hl with | [_, _], _ => rfl) (fun vs H Q E h => ?_) (fun cdv A outer s H vs Q E hr h => ?_)
  · obtain ⟨kd, v, d, rfl, _⟩ := h
    rfl
  · obtain ⟨kd, v, d, rfl, hd, nl, hz, k⟩ := h
    have k0 := k H (Same.refl H)
    refine ⟨_, (pss_cons (ps_if (pt_cmpR op_eq (pv 0) pe_str (nomark _)) (pss_one (ps_ret (pe_f G_is_number hr (by decide) (by rfl) T.g_is_number pass0 (pa_cons (pv 1) (pa_cons (pe_gc (by rfl) T.c_PAGES) pa_nil))))) pss_nil)
    (pss_cons (ps_if (pt_cmpR op_eq (pv 0) pe_str (nomark _)) (pss_one (ps_ret (pe_f G_is_number hr (by decide) (by rfl) T.g_is_number pass0 (pa_cons (pv 1) (pa_cons (pe_gc (by rfl) T.c_CELLS) pa_nil))))) pss_nil)
    (pss_cons (ps_if (pt_cmpR op_eq (pv 0) pe_str (nomark _)) (pss_one (ps_ret (pe_f G_is_number hr (by decide) (by rfl) T.g_is_number pass0 (pa_cons (pv 1) (pa_cons (pe_gc (by rfl) T.c_BLOCKS) pa_nil))))) pss_nil)
    (pss_cons (ps_if (pt_cmpR op_eq (pv 0) pe_str (nomark _)) (pss_one (ps_ret (pe_f G_is_value hr (by decide) (by rfl) T.g_is_value pass0 (pa_cons (pv 1) pa_nil)))) pss_nil)
    (pss_cons (ps_if (pt_cmpR op_eq (pv 0) pe_str (nomark _)) (pss_one (ps_ret (pe_and (pe_f G_is_tuple_of_values hr (by decide) (by rfl) T.g_is_tuple_of_values pass0 (pa_cons (pv 1) pa_nil)) (pe_one (pe_cmpR op_eq (pe_callB call_len_seq (by rfl) T.b_len PySem.boot_len (pa_cons (pv 1) pa_nil)) (pe_gc (by rfl) T.c_CELLS) (nomark _)))))) pss_nil)
    (pss_cons (ps_if (pt_cmpR op_eq (pv 0) pe_str (nomark _)) (pss_one (ps_ret (pe_f G_is_tuple_of_values hr (by decide) (by rfl) T.g_is_tuple_of_values pass0 (pa_cons (pv 1) pa_nil)))) pss_nil)
    (pss_one (ps_ret (pe_f G_is_integer hr (by decide) (by rfl) T.g_is_integer pass0 (pa_cons (pv 1) pa_nil)))))))))), ?_⟩
    unfold fitsD at k k0
    refine ⟨_, rfl, rfl, _, rfl, ?_⟩
    show if decide (V.str kd = V.str "page") = true then _ else _
    rw [dec_s]
    cases e1 : kd == ("page" : Str) with
    | true =>
      rw [if_pos rfl]
      rw [if_pos e1, ← isNumD_of hd] at k0
      exact ⟨_, rfl, v, _, _, rfl, Rb.Dp.ty hd, k0⟩
    | false =>
    rw [if_neg Bool.false_ne_true]
    rw [if_neg (by rw [e1]; exact Bool.false_ne_true)] at k k0
    refine ⟨_, rfl, rfl, _, rfl, ?_⟩
    show if decide (V.str kd = V.str "index") = true then _ else _
    rw [dec_s]
    cases e2 : kd == ("index" : Str) with
    | true =>
      rw [if_pos rfl]
      rw [if_pos e2, ← isNumD_of hd] at k0
      exact ⟨_, rfl, v, _, _, rfl, Rb.Dp.ty hd, k0⟩
    | false =>
    rw [if_neg Bool.false_ne_true]
    rw [if_neg (by rw [e2]; exact Bool.false_ne_true)] at k k0
    refine ⟨_, rfl, rfl, _, rfl, ?_⟩
    show if decide (V.str kd = V.str "block") = true then _ else _
    rw [dec_s]
    cases e3 : kd == ("block" : Str) with
    | true =>
      rw [if_pos rfl]
      rw [if_pos e3, ← isNumD_of hd] at k0
      exact ⟨_, rfl, v, _, _, rfl, Rb.Dp.ty hd, k0⟩
    | false =>
    rw [if_neg Bool.false_ne_true]
    rw [if_neg (by rw [e3]; exact Bool.false_ne_true)] at k k0
    refine ⟨_, rfl, rfl, _, rfl, ?_⟩
    show if decide (V.str kd = V.str "value") = true then _ else _
    rw [dec_s]
    cases e4 : kd == ("value" : Str) with
    | true =>
      rw [if_pos rfl]
      rw [if_pos e4] at k
      exact ⟨_, rfl, v, d, rfl, hd, nl, hz, k⟩
    | false =>
    rw [if_neg Bool.false_ne_true]
    rw [if_neg (by rw [e4]; exact Bool.false_ne_true)] at k k0
    refine ⟨_, rfl, rfl, _, rfl, ?_⟩
    show if decide (V.str kd = V.str "values") = true then _ else _
    rw [dec_s]
    cases e5 : kd == ("values" : Str) with
    | true =>
      rw [if_pos rfl]
      rw [if_pos e5] at k
      refine ⟨_, rfl, v, d, rfl, hd, nl, hz, fun H' s => ⟨_, rfl, ?_⟩⟩
      have kk := k H' s
      by_cases e6 : isTupV d = true
      · rw [if_pos e6]
        rw [e6, Bool.true_and] at kk
        have ty : tyOf d = "tuple" := by
          cases d with
          | tuple ds => rfl
          | _ => simp [isTupV] at e6
        obtain ⟨a, xs, rfl, hq, hl⟩ := Rb.Dp.len (Dp.ts (TSame.same s) d v nl hd) ty
        refine ⟨_, rfl, a, xs, rfl, .inr hq, rfl, ?_⟩
        rw [dec_int]
        have e7 : ((xs.length : Int) == 4) = decide (lenD d = 4) := by
          rw [Bool.eq_iff_iff, beq_iff_eq, decide_eq_true_eq, hl]
          omega
        rw [e7]
        exact kk
      · rw [if_neg e6]
        rw [Bool.not_eq_true] at e6
        rw [e6, Bool.false_and] at kk
        exact kk
    | false =>
    rw [if_neg Bool.false_ne_true]
    rw [if_neg (by rw [e5]; exact Bool.false_ne_true)] at k k0
    refine ⟨_, rfl, rfl, _, rfl, ?_⟩
    show if decide (V.str kd = V.str "rows") = true then _ else _
    rw [dec_s]
    cases e6 : kd == ("rows" : Str) with
    | true =>
      rw [if_pos rfl]
      rw [if_pos e6] at k
      exact ⟨_, rfl, v, d, rfl, hd, nl, hz, k⟩
    | false =>
    rw [if_neg Bool.false_ne_true]
    rw [if_neg (by rw [e6]; exact Bool.false_ne_true)] at k0
    exact ⟨_, rfl, v, _, rfl, Rb.Dp.ty hd, k0⟩
end
end Rb
namespace Rb
open PySem PySem.Spec PyProof.Rows L2
/-! ### actors, words, forms -/
def spActor (K : PySem.W.Frag) : Sp := fun vs H Q _ => ∃ (a : Addr) (r : Str) (i : Int), vs = [.ref a] ∧ SqT K H a [.str r, .int i] ∧ Q (.bl (isNum (.int i) 2)) H
def spWord (K : PySem.W.Frag) : Sp := fun vs H Q _ => ∃ v : V, vs = [v] ∧ ((v = .non ∧ Q (.bl true) H) ∨
  ∃ (a : Addr) (i : Int) (r : Str), v = .ref a ∧ SqT K H a [.int i, .str r] ∧ Q (.bl (isNum (.int i) 6 && inV (.str r) [.str "r", .str "w"])) H)
section
variable {P : Program} {w : World} {K : PySem.W.Frag} {mg : Str → Option Value} {base : Heap}
theorem ok_is_actor (T : Top K mg) : FnC P w K mg base CX0 3 (He.ga K "is_actor") (spActor K) := by
  have G_is_number := ok_is_number (P := P) (w := w) (base := base) T
  refine fnc0 T.d_is_actor sc_is_actor (fun _ _ _ _ _ _ us hl => match us, hl with | [_], _ => rfl) (fun vs H Q E h => ?_) (fun cdv A outer s H vs Q E hr h => ?_)
  · obtain ⟨a, r, i, rfl, _⟩ := h
    rfl
  · obtain ⟨a, r, i, rfl, hq, k⟩ := h
    refine ⟨_, (pss_cons (ps_if (PW.pt (pw_or (pt_cmpR op_notTyB (pe_callTy call_type1 (by rfl) T.b_type (by decide +kernel) (pa_cons (pv 0) pa_nil)) (pe_bltn (v := .ty "tuple") (by rfl) T.b_tuple (by decide +kernel) rfl) (nomark _)) (pw_or1 (pt_cmpR op_ne (pe_callB call_len_seq (by rfl) T.b_len PySem.boot_len (pa_cons (pv 0) pa_nil)) pe_int (nomark _))))) (pss_one (ps_ret pe_bl)) pss_nil)
    (pss_cons (ps_asg (pv 0) (pg_tup rfl (pgs_cons (pg_name (i := 1) sc_is_actor.nd rfl (Or.inl rfl)) (pgs_cons (pg_name (i := 2) sc_is_actor.nd rfl (Or.inl rfl)) pgs_nil))))
    (pss_one (ps_ret (pe_and (pe_cmpR op_isTyB (pe_callTy call_type1 (by rfl) T.b_type (by decide +kernel) (pa_cons (pv 1) pa_nil)) (pe_bltn (v := .ty "str") (by rfl) T.b_str (by decide +kernel) rfl) (nomark _)) (pe_one (pe_f G_is_number hr (by decide) (by rfl) T.g_is_number pass0 (pa_cons (pv 2) (pa_cons (pe_gc (by rfl) T.c_DEVICES) pa_nil))))))))), ?_⟩
    refine ⟨_, rfl, _, _, rfl, .tup hq, _, _, rfl, rfl, _, rfl, ?_⟩
    show if (!decide ("tuple" = "tuple")) = true then _ else _
    rw [if_neg (by decide)]
    refine ⟨_, rfl, a, _, rfl, .inr hq, rfl, _, rfl, ?_⟩
    show if (!decide (V.int (([V.str r, V.int i].length : Nat) : Int) = V.int 2)) = true then _ else _
    rw [if_neg (by simp)]
    refine ⟨_, rfl, a, _, rfl, hq, rfl, _, _, rfl, _, _, rfl, rfl, ?_⟩
    refine ⟨_, rfl, _, _, rfl, .str r, _, _, rfl, rfl, _, rfl, ?_⟩
    show if decide ("str" = "str") = true then _ else _
    rw [if_pos (by decide)]
    exact ⟨_, rfl, .int i, _, _, rfl, .int i, k⟩
theorem ok_is_word (T : Top K mg) : FnC P w K mg base CX0 3 (He.ga K "is_word") (spWord K) := by
  have G_is_number := ok_is_number (P := P) (w := w) (base := base) T
  refine fnc0 T.d_is_word sc_is_word (fun _ _ _ _ _ _ us hl => match us, hl with | [_], _ => rfl) (fun vs H Q E h => ?_) (fun cdv A outer s H vs Q E hr h => ?_)
  · obtain ⟨v, rfl, _⟩ := h
    rfl
  · obtain ⟨v, rfl, h⟩ := h
    refine ⟨_, (pss_cons (ps_if (pt_cmp (pc_isN (pv 0))) (pss_one (ps_ret pe_bl)) pss_nil)
    (pss_cons (ps_if (PW.pt (pw_or (pt_cmpR op_notTyB (pe_callTy call_type1 (by rfl) T.b_type (by decide +kernel) (pa_cons (pv 0) pa_nil)) (pe_bltn (v := .ty "tuple") (by rfl) T.b_tuple (by decide +kernel) rfl) (nomark _)) (pw_or1 (pt_cmpR op_ne (pe_callB call_len_seq (by rfl) T.b_len PySem.boot_len (pa_cons (pv 0) pa_nil)) pe_int (nomark _))))) (pss_one (ps_ret pe_bl)) pss_nil)
    (pss_cons (ps_asg (pv 0) (pg_tup rfl (pgs_cons (pg_name (i := 1) sc_is_word.nd rfl (Or.inl rfl)) (pgs_cons (pg_name (i := 2) sc_is_word.nd rfl (Or.inl rfl)) pgs_nil))))
    (pss_one (ps_ret (pe_and (pe_f G_is_number hr (by decide) (by rfl) T.g_is_number pass0 (pa_cons (pv 1) (pa_cons (pe_gc (by rfl) T.c_FRAMES) pa_nil))) (pe_and (pe_cmpR op_isTyB (pe_callTy call_type1 (by rfl) T.b_type (by decide +kernel) (pa_cons (pv 2) pa_nil)) (pe_bltn (v := .ty "str") (by rfl) T.b_str (by decide +kernel) rfl) (nomark _)) (pe_one (pe_cmpR op_in_seq (pv 2) (pe_gc (by rfl) T.c_RIGHTS) rfl))))))))), ?_⟩
    rcases h with ⟨rfl, k⟩ | ⟨a, i, r, rfl, hq, k⟩
    · refine ⟨_, rfl, _, rfl, ?_⟩
      show if decide (V.non = V.non) = true then _ else _
      rw [if_pos (by decide)]
      exact k
    · refine ⟨_, rfl, _, rfl, ?_⟩
      show if decide (V.ref a = V.non) = true then _ else _
      rw [if_neg (by simp)]
      refine ⟨_, rfl, _, _, rfl, .tup hq, _, _, rfl, rfl, _, rfl, ?_⟩
      show if (!decide ("tuple" = "tuple")) = true then _ else _
      rw [if_neg (by decide)]
      refine ⟨_, rfl, a, _, rfl, .inr hq, rfl, _, rfl, ?_⟩
      show if (!decide (V.int (([V.int i, V.str r].length : Nat) : Int) = V.int 2)) = true then _ else _
      rw [if_neg (by simp)]
      refine ⟨_, rfl, a, _, rfl, hq, rfl, _, _, rfl, _, _, rfl, rfl, ?_⟩
      refine ⟨_, rfl, .int i, _, _, rfl, .int i, _, rfl, ?_⟩
      cases e : isNum (.int i) 6 with
      | false =>
        rw [e] at k
        exact k
      | true =>
        rw [e] at k
        refine ⟨_, rfl, _, _, rfl, .str r, _, _, rfl, rfl, _, rfl, ?_⟩
        show if decide ("str" = "str") = true then _ else _
        rw [if_pos (by decide)]
        exact ⟨_, rfl, _, _, rfl, .inr (T.t_RIGHTS H), rfl, rfl, k⟩
end
end Rb
namespace Rb
open PySem PySem.Spec PyProof.Rows L2
/-! ### the form of a request -/
def formsL : List (Str × List Str × List Str) := [
  ("read", ["driver", "device"], ["integer"]), ("write", ["driver", "device"], ["integer", "value"]),
  ("dma read", ["device"], ["page", "index"]), ("dma write", ["device"], ["page", "index", "value"]),
  ("command", ["driver"], ["page"]), ("drop", ["guard"], []), ("fetch", ["device"], ["block", "integer", "integer"]),
  ("commit", ["device"], ["block", "values", "integer", "integer"]), ("journal", ["driver"], []), ("tell", ["device"], ["rows"])]
theorem forms_ok {K : PySem.W.Frag} {mg : Str → Option Value} (T : Top K mg) : ∀ f ∈ formsL, Form K "FORMS" f.1 f.2.1 f.2.2 := by
  intro f hf
  simp only [formsL, List.mem_cons, List.not_mem_nil, or_false] at hf
  rcases hf with rfl | rfl | rfl | rfl | rfl | rfl | rfl | rfl | rfl | rfl
  · exact T.fo_FORMS__read
  · exact T.fo_FORMS__write
  · exact T.fo_FORMS__dma_read
  · exact T.fo_FORMS__dma_write
  · exact T.fo_FORMS__command
  · exact T.fo_FORMS__drop
  · exact T.fo_FORMS__fetch
  · exact T.fo_FORMS__commit
  · exact T.fo_FORMS__journal
  · exact T.fo_FORMS__tell
def hasF (role : Str) (rs ks : List Str) (ds : List PyData) : Bool := inV (.str role) (rs.map V.str) && (decide (ds.length = ks.length) && (List.zipWith fitsD ks ds).all id)
theorem flat_strs : ∀ rs : List Str, (rs.map V.str).all flatV = true
  | [] => rfl
  | r :: rs => by
    show (true && (rs.map V.str).all flatV) = true
    rw [flat_strs rs]
    rfl
theorem dpAll_get {K : PySem.W.Frag} {H : Hp} : ∀ {vs : List V} {ds : List PyData} {i : Nat} {v : V}, DpAll K H vs ds → vs[i]? = some v → ∃ d, ds[i]? = some d ∧ Dp K H v d
  | _, _, _, _, .nil, e => by simp at e
  | _, _, 0, _, .cons h _, e => by
    simp at e
    subst e
    exact ⟨_, rfl, h⟩
  | _, _, i + 1, v, .cons _ t, e => by
    obtain ⟨d, a, b⟩ := dpAll_get (i := i) (v := v) t (by simpa using e)
    exact ⟨d, by simpa using a, b⟩
theorem noLs_get : ∀ {ds : List PyData} {i : Nat} {d : PyData}, noLs ds = true → ds[i]? = some d → noL d = true
  | [], _, _, _, e => by simp at e
  | x :: xs, 0, d, h, e => by
    simp at e
    subst e
    exact (and2 (show (noL x && noLs xs) = true from h)).1
  | x :: xs, i + 1, d, h, e => noLs_get (i := i) (and2 (show (noL x && noLs xs) = true from h)).2 (by simpa using e)
theorem szs_get : ∀ {ds : List PyData} {i : Nat} {d : PyData}, ds[i]? = some d → sz d ≤ szs ds
  | [], _, _, e => by simp at e
  | x :: xs, 0, d, e => by
    simp at e
    subst e
    show sz x ≤ sz x + szs xs
    omega
  | x :: xs, i + 1, d, e => by
    have := szs_get (ds := xs) (i := i) (d := d) (by simpa using e)
    show sz d ≤ sz x + szs xs
    omega
def spHasForm (K : PySem.W.Frag) : Sp := fun vs H Q _ => ∃ (role : Str) (q : Addr) (w : Str) (rs ks : List Str) (xs : List V) (ds : List PyData), vs = [.str role, .ref q] ∧ SqT K H q (.str w :: xs) ∧ DpAll K H xs ds ∧ noLs ds = true ∧ szs ds ≤ 4000 ∧
  (w, rs, ks) ∈ formsL ∧ ∀ H', Same H H' → Q (.bl (hasF role rs ks ds)) H'
section
variable {P : Program} {w : World} {K : PySem.W.Frag} {mg : Str → Option Value} {base : Heap}
theorem ok_has_form (T : Top K mg) (TB : ∃ es n, KDict K w (He.ga K "FORMS") es n) : FnC P w K mg base CX0 4 (He.ga K "has_form") (spHasForm K) := by
  have G_fits := ok_fits (P := P) (w := w) (base := base) T
  refine fnc0 T.d_has_form sc_has_form (fun _ _ _ _ _ _ us hl => match us, hl with | [_, _], _ => rfl) (fun vs H Q E h => ?_) (fun cdv A outer s H vs Q E hr h => ?_)
  · obtain ⟨role, q, wd, rs, ks, xs, ds, rfl, _⟩ := h
    rfl
  · obtain ⟨role, q, wd, rs, ks, xs, ds, rfl, hq, hD, hn, hs, hf, k⟩ := h
    have F : Form K "FORMS" wd rs ks := forms_ok T _ hf
    refine ⟨_, (pss_cons (ps_if (PW.pt (pw_or (pt_cmpR op_notTyB (pe_callTy call_type1 (by rfl) T.b_type (by decide +kernel) (pa_cons (pv 1) pa_nil)) (pe_bltn (v := .ty "tuple") (by rfl) T.b_tuple (by decide +kernel) rfl) (nomark _)) (pw_or1 (pt_not (pt_truth (pv 1) (fun _ => rfl)))))) (pss_one (ps_ret pe_bl)) pss_nil)
    (pss_cons (ps_asg (pv 1) (pg_star (n := 1) rfl (pgs_cons (pg_name (i := 2) sc_has_form.nd rfl (Or.inl rfl)) (pgs_cons (pg_name (i := 3) sc_has_form.nd rfl (Or.inl rfl)) pgs_nil))))
    (pss_cons (ps_if (PW.pt (pw_or (pt_cmpR op_notTyB (pe_callTy call_type1 (by rfl) T.b_type (by decide +kernel) (pa_cons (pv 2) pa_nil)) (pe_bltn (v := .ty "str") (by rfl) T.b_str (by decide +kernel) rfl) (nomark _)) (pw_or1 (pt_cmpR (op_notIn_form TB) (pv 2) (pe_gc (by rfl) T.c_FORMS) rfl)))) (pss_one (ps_ret pe_bl)) pss_nil)
    (pss_cons (ps_asg (pe_ix (ix_form TB) (pe_gc (by rfl) T.c_FORMS) (pv 2) (fun _ _ => rfl)) (pg_tup rfl (pgs_cons (pg_name (i := 4) sc_has_form.nd rfl (Or.inl rfl)) (pgs_cons (pg_name (i := 5) sc_has_form.nd rfl (Or.inl rfl)) pgs_nil))))
    (pss_cons (ps_if (PW.pt (pw_or (pt_cmpR op_notIn_seq (pv 0) (pv 4) rfl) (pw_or1 (pt_cmpR op_ne (pe_callB call_len_seq (by rfl) T.b_len PySem.boot_len (pa_cons (pv 3) pa_nil)) (pe_callB call_len_seq (by rfl) T.b_len PySem.boot_len (pa_cons (pv 5) pa_nil)) (nomark _))))) (pss_one (ps_ret pe_bl)) pss_nil)
    (pss_one (ps_ret (pe_callB (cr_all rfl) (by rfl) T.b_all (by decide +kernel) (pa_cons (pe_lc (own := [("kind", 6), ("part", 7)]) (g := gTup K 2 (gCons (gName 6) (gCons (gName 7) (gNil)))) (tt := tYes) rfl sc_has_form.nd (pi_zipM (by rfl) T.b_zip (pa_cons (pv 5) (pa_cons (pv 3) pa_nil))) (blkOk_by (N := ["role", "request", "word", "parts", "roles", "kinds", "kind", "part"]) (sc := defScope s_has_form) (by decide +kernel)) (fun _ _ _ _ _ => (pg_tupK (K := K) (n := 2) rfl rfl (pgs_cons (pg_name (i := 6) sc_has_form.nd rfl (Or.inl rfl)) (pgs_cons (pg_name (i := 7) sc_has_form.nd rfl (Or.inl rfl)) pgs_nil)))) (fun _ _ _ _ _ => pts_nil) (fun _ _ _ _ _ => (pe_f G_fits hr (by decide) (by rfl) T.g_fits pass0 (pa_cons (pv 6) (pa_cons (pv 7) pa_nil))))) pa_nil))))))))), ?_⟩
    refine ⟨_, rfl, _, _, rfl, .tup hq, _, _, rfl, rfl, _, rfl, ?_⟩
    show if (!decide ("tuple" = "tuple")) = true then _ else _
    rw [if_neg (by decide)]
    refine ⟨_, rfl, true, .inr (.inl ⟨_, hq, rfl⟩), ?_⟩
    refine ⟨_, rfl, q, _, rfl, hq, (by show 1 ≤ xs.length + 1; omega), fun pd hpd => ⟨_, _, rfl, _, _, rfl, rfl, ?_⟩⟩
    have s1 : Same H (upd H pd (.lst xs)) := Same.new (Same.refl H) hpd
    refine ⟨_, rfl, _, _, rfl, .str wd, _, _, rfl, rfl, _, rfl, ?_⟩
    show if (!decide ("str" = "str")) = true then _ else _
    rw [if_neg (by decide)]
    refine ⟨_, rfl, wd, rs, ks, rfl, rfl, F, _, rfl, ?_⟩
    refine ⟨_, rfl, wd, rs, ks, rfl, rfl, F, _, _, rfl, F.pair _, rfl, _, _, rfl, _, _, rfl, rfl, ?_⟩
    refine ⟨_, rfl, _, rfl, _, _, rfl, .inr (F.fst _), rfl, flat_strs rs, _, rfl, ?_⟩
    show if (!inV (V.str role) (rs.map V.str)) = true then _ else _
    cases e1 : inV (V.str role) (rs.map V.str) with
    | false =>
      rw [if_pos (show (!false) = true from rfl)]
      have kk := k _ s1
      unfold hasF at kk
      rw [e1, Bool.false_and] at kk
      exact kk
    | true =>
    rw [if_neg (by decide)]
    refine ⟨_, rfl, pd, xs, rfl, .inl (SqL.of upd_same), _, rfl, _, _, rfl, .inr (F.snd _), rfl, _, rfl, ?_⟩
    show if (!decide (V.int ((xs.length : Nat) : Int) = V.int (((ks.map V.str).length : Nat) : Int))) = true then _ else _
    have el := Rb.DpAll.len hD
    by_cases e2 : ds.length = ks.length
    · have e3 : (!decide (V.int ((xs.length : Nat) : Int) = V.int (((ks.map V.str).length : Nat) : Int))) = false := by
        rw [el, e2, List.length_map, decide_eq_true rfl]
        rfl
      rw [e3, if_neg Bool.false_ne_true]
      have e4 : (ks.map V.str).length = xs.length := by rw [List.length_map, el, e2]
      have hD1 : DpAll K (upd H pd (.lst xs)) xs ds := DpAll.ts (TSame.same s1) ds xs hn hD
      refine ⟨_, rfl, _, rfl, _, pd, _, xs, rfl, F.snd _, SqL.of upd_same, fun D hDn => ?_⟩
      refine lc_zipM e4 (fun i H2 => H2 D = some (.lst (((List.zipWith fitsD ks ds).take i).map V.bl)) ∧ Same (upd H pd (.lst xs)) H2) ?_ ?_ ?_ ?_
      · exact ⟨upd_same, Same.new (Same.refl _) hDn⟩
      · rintro i H2 ⟨_, s2⟩
        exact ⟨F.snd _, SqL.of (s2 _ _ upd_same)⟩
      · rintro i x y Tu H2 hx hy ⟨hL, s2⟩ hT
        obtain ⟨kd, hkd, rfl⟩ : ∃ kd, ks[i]? = some kd ∧ x = V.str kd := by
          rw [List.getElem?_map] at hx
          cases e : ks[i]? with
          | none =>
            rw [e] at hx
            cases hx
          | some kd =>
            rw [e] at hx
            exact ⟨kd, rfl, (Option.some.inj hx).symm⟩
        obtain ⟨d, hd, hdp⟩ := dpAll_get hD1 hy
        have s3 : Same H2 (upd H2 Tu (.tup [V.str kd, y])) := Same.new (Same.refl _) hT
        have s4 : Same (upd H pd (.lst xs)) (upd H2 Tu (.tup [V.str kd, y])) := Same.trans s2 s3
        refine ⟨Tu, _, rfl, SqT.of upd_same, rfl, _, _, rfl, _, _, rfl, rfl, rfl, ?_⟩
        refine ⟨_, rfl, _, rfl, kd, y, d, rfl, Dp.ts (TSame.same s4) d y (noLs_get hn hd) hdp, noLs_get hn hd, Nat.le_trans (szs_get hd) hs, fun H3 s5 => ⟨_, s5 _ _ (s3 _ _ hL), ?_, ?_, ?_⟩⟩
        · rw [sizeLine_eq, List.length_map, List.length_take]
          have := len_szs ds
          have := (List.length_zipWith (f := fitsD) (l₁ := ks) (l₂ := ds))
          omega
        · rw [upd_same]
          have hz : (List.zipWith fitsD ks ds)[i]? = some (fitsD kd d) := by
            rw [List.getElem?_zipWith, hkd, hd]
          rw [List.take_add_one, hz, List.map_append]
          rfl
        · exact Same.new (Same.trans s4 s5) hDn
      · rintro H2 ⟨hL, s2⟩
        refine ⟨D, List.zipWith fitsD ks ds, rfl, SqL.of ?_, ?_⟩
        · rw [hL, List.take_of_length_le]
          rw [List.length_zipWith, List.length_map]
          omega
        · have kk := k H2 (Same.trans s1 s2)
          unfold hasF at kk
          rw [e1, decide_eq_true e2, Bool.true_and, Bool.true_and] at kk
          exact kk
    · have e3 : (!decide (V.int ((xs.length : Nat) : Int) = V.int (((ks.map V.str).length : Nat) : Int))) = true := by
        rw [el, List.length_map, decide_eq_false (fun z => e2 (by injection z with z; omega))]
        rfl
      rw [e3, if_pos rfl]
      have kk := k _ s1
      unfold hasF at kk
      rw [e1, decide_eq_false e2, Bool.false_and, Bool.true_and] at kk
      exact kk
end
end Rb
namespace Rb
open PySem PySem.Spec PyProof.Rows L2
/-! ### what is allowed -/
def cellOf : List PyData → Int
  | .int c :: _ => c
  | _ => 0
def valOf : List PyData → PyData
  | _ :: d :: _ => d
  | _ => .none
def isWordD : PyData → Bool
  | .none => true
  | .tuple [.int i, .str r] => isNum (.int i) 6 && inV (.str r) [.str "r", .str "w"]
  | _ => false
def wordForm (d : PyData) : Prop := d = .none ∨ ∃ i r, d = .tuple [.int i, .str r]
def allowB (role : Str) (dev : Int) (wd : Str) (rs ks : List Str) (ds : List PyData) : Bool :=
  isNum (.int dev) 2 && (hasF role rs ks ds && (if inV (.str wd) [.str "read", .str "write"] then
    mayR role dev (cellOf ds) && (if wd == "write" && isTw dev (cellOf ds) then isWordD (valOf ds) else true) else true))
def spAllowed (K : PySem.W.Frag) : Sp := fun vs H Q _ => ∃ (a : Addr) (role : Str) (dev : Int) (q : Addr) (wd : Str) (rs ks : List Str) (xs : List V) (ds : List PyData), vs = [.ref a, .ref q] ∧ SqT K H a [.str role, .int dev] ∧
  SqT K H q (.str wd :: xs) ∧ DpAll K H xs ds ∧ noLs ds = true ∧ szs ds ≤ 4000 ∧ (wd, rs, ks) ∈ formsL ∧ (wd = "write" → isTw dev (cellOf ds) = true → wordForm (valOf ds)) ∧
  ∀ H', Same H H' → Q (.bl (allowB role dev wd rs ks ds)) H'
theorem int_of {K : PySem.W.Frag} {H : Hp} {v : V} {d : PyData} (h : Dp K H v d) (e : tyOf d = "int") : ∃ c, v = .int c ∧ d = .int c := by
  cases h with
  | int i => exact ⟨i, rfl, rfl⟩
  | _ => simp [tyOf] at e
theorem rw_form {wd : Str} {rs ks : List Str} (hf : (wd, rs, ks) ∈ formsL) (h : inV (.str wd) [.str "read", .str "write"] = true) :
    (wd = "read" ∧ ks = (["integer"] : List Str)) ∨ (wd = "write" ∧ ks = (["integer", "value"] : List Str)) := by
  simp only [formsL, List.mem_cons, Prod.mk.injEq, List.not_mem_nil, or_false] at hf
  rcases hf with ⟨rfl, rfl, rfl⟩ | ⟨rfl, rfl, rfl⟩ | ⟨rfl, rfl, rfl⟩ | ⟨rfl, rfl, rfl⟩ | ⟨rfl, rfl, rfl⟩ | ⟨rfl, rfl, rfl⟩ | ⟨rfl, rfl, rfl⟩ | ⟨rfl, rfl, rfl⟩ | ⟨rfl, rfl, rfl⟩ | ⟨rfl, rfl, rfl⟩
  · exact .inl ⟨rfl, rfl⟩
  · exact .inr ⟨rfl, rfl⟩
  all_goals exact absurd h (by decide)
/-- a read's or a write's parts -/
theorem rw_parts {K : PySem.W.Frag} {H : Hp} {role wd : Str} {rs ks : List Str} {xs : List V} {ds : List PyData} (hD : DpAll K H xs ds) (hf : (wd, rs, ks) ∈ formsL)
    (h : inV (.str wd) [.str "read", .str "write"] = true) (g : hasF role rs ks ds = true) : ∃ c ys, xs = .int c :: ys ∧ cellOf ds = c ∧ (wd = "write" → ∃ v d, ys = [v] ∧ valOf ds = d ∧ Dp K H v d) := by
  unfold hasF at g
  obtain ⟨_, g⟩ := and2 g
  obtain ⟨g1, g2⟩ := and2 g
  have g1 := of_decide_eq_true g1
  rcases rw_form hf h with ⟨rfl, rfl⟩ | ⟨rfl, rfl⟩
  · cases hD with
    | nil => cases g1
    | cons h1 t1 =>
      cases t1 with
      | cons _ _ => simp at g1
      | nil =>
        obtain ⟨g3, _⟩ := and2 (show (fitsD "integer" _ && true) = true from g2)
        obtain ⟨c, rfl, rfl⟩ := int_of h1 (of_decide_eq_true (show decide (tyOf _ = "int") = true from g3))
        exact ⟨c, [], rfl, rfl, fun e => absurd e (by decide)⟩
  · cases hD with
    | nil => cases g1
    | cons h1 t1 =>
      cases t1 with
      | nil => simp at g1
      | cons h2 t2 =>
        cases t2 with
        | cons _ _ => simp at g1
        | nil =>
          obtain ⟨g3, _⟩ := and2 (show (fitsD "integer" _ && _) = true from g2)
          obtain ⟨c, rfl, rfl⟩ := int_of h1 (of_decide_eq_true (show decide (tyOf _ = "int") = true from g3))
          exact ⟨c, _, rfl, rfl, fun _ => ⟨_, _, rfl, rfl, h2⟩⟩
section
variable {P : Program} {w : World} {K : PySem.W.Frag} {mg : Str → Option Value} {base : Heap}
theorem ok_is_allowed (T : Top K mg) (TB : ∃ es n, KDict K w (He.ga K "FORMS") es n) : FnC P w K mg base CX0 6 (He.ga K "is_allowed") (spAllowed K) := by
  have G_is_actor := ok_is_actor (P := P) (w := w) (base := base) T
  have G_has_form := ok_has_form (P := P) (w := w) (base := base) T TB
  have G_may_reach := ok_may_reach (P := P) (w := w) (base := base) T
  have G_is_table_word := ok_is_table_word (P := P) (w := w) (base := base) T
  have G_is_word := ok_is_word (P := P) (w := w) (base := base) T
  refine fnc0 T.d_is_allowed sc_is_allowed (fun _ _ _ _ _ _ us hl => match us, hl with | [_, _], _ => rfl) (fun vs H Q E h => ?_) (fun cdv A outer s H vs Q E hr h => ?_)
  · obtain ⟨a, role, dev, q, wd, rs, ks, xs, ds, rfl, _⟩ := h
    rfl
  · obtain ⟨a, role, dev, q, wd, rs, ks, xs, ds, rfl, hqa, hq, hD, hn, hs, hf, hw, k⟩ := h
    refine ⟨_, (pss_cons (ps_if (pt_not (pt_val (pe_f G_is_actor hr (by decide) (by rfl) T.g_is_actor pass0 (pa_cons (pv 0) pa_nil)))) (pss_one (ps_ret pe_bl)) pss_nil)
    (pss_cons (ps_asg (pv 0) (pg_tup rfl (pgs_cons (pg_name (i := 2) sc_is_allowed.nd rfl (Or.inl rfl)) (pgs_cons (pg_name (i := 3) sc_is_allowed.nd rfl (Or.inl rfl)) pgs_nil))))
    (pss_cons (ps_if (pt_not (pt_val (pe_f G_has_form hr (by decide) (by rfl) T.g_has_form pass0 (pa_cons (pv 2) (pa_cons (pv 1) pa_nil))))) (pss_one (ps_ret pe_bl)) pss_nil)
    (pss_cons (ps_if (pt_cmpR op_notIn_seq (pe_ix ix_tup (pv 1) pe_int (fun _ _ => rfl)) (pe_tup (pa_cons pe_str (pa_cons pe_str pa_nil))) rfl) (pss_one (ps_ret pe_bl)) pss_nil)
    (pss_cons (ps_set (i := 4) sc_is_allowed.nd rfl (Or.inl rfl) (pe_ix ix_tup (pv 1) pe_int (fun _ _ => rfl)))
    (pss_cons (ps_if (pt_not (pt_val (pe_f G_may_reach hr (by decide) (by rfl) T.g_may_reach pass0 (pa_cons (pv 2) (pa_cons (pv 3) (pa_cons (pv 4) pa_nil)))))) (pss_one (ps_ret pe_bl)) pss_nil)
    (pss_cons (ps_if (PW.pt (pw_and (pt_cmpR op_eq (pe_ix ix_tup (pv 1) pe_int (fun _ _ => rfl)) pe_str (nomark _)) (pw_and1 (pt_val (pe_f G_is_table_word hr (by decide) (by rfl) T.g_is_table_word pass0 (pa_cons (pv 3) (pa_cons (pv 4) pa_nil))))))) (pss_one (ps_ret (pe_f G_is_word hr (by decide) (by rfl) T.g_is_word pass0 (pa_cons (pe_ix ix_tup (pv 1) pe_int (fun _ _ => rfl)) pa_nil)))) pss_nil)
    (pss_one (ps_ret pe_bl))))))))), ?_⟩
    unfold allowB at k
    refine ⟨_, rfl, a, role, dev, rfl, hqa, _, rfl, ?_⟩
    cases e1 : isNum (.int dev) 2 with
    | false =>
      have kk := k H (Same.refl H)
      rw [e1, Bool.false_and] at kk
      exact kk
    | true =>
    refine ⟨_, rfl, a, _, rfl, hqa, rfl, _, _, rfl, _, _, rfl, rfl, ?_⟩
    refine ⟨_, rfl, _, rfl, role, q, wd, rs, ks, xs, ds, rfl, hq, hD, hn, hs, hf, fun H1 s1 => ⟨_, rfl, ?_⟩⟩
    cases e2 : hasF role rs ks ds with
    | false =>
      have kk := k H1 s1
      rw [e1, e2, Bool.false_and, Bool.and_false] at kk
      exact kk
    | true =>
    have hq1 : SqT K H1 q (.str wd :: xs) := TSame.same s1 _ _ hq
    refine ⟨_, rfl, q, _, 0, _, rfl, rfl, hq1, atI_n (j := 0) rfl, (by rw [sizeLine_eq]; show 2 ≤ _; omega), fun p2 hp2 => ⟨p2, _, rfl, .inr (SqT.of upd_same), rfl, rfl, _, rfl, ?_⟩⟩
    have s2 : Same H (upd H1 p2 (.tup [.str "read", .str "write"])) := Same.new s1 (s1.free hp2)
    have t2 : TSame K H1 (upd H1 p2 (.tup [.str "read", .str "write"])) := TSame.same (Same.new (Same.refl _) hp2)
    show if (!inV (V.str wd) [V.str "read", V.str "write"]) = true then _ else _
    cases e3 : inV (V.str wd) [V.str "read", V.str "write"] with
    | false =>
      rw [if_pos (show (!false) = true from rfl)]
      have kk := k _ s2
      rw [e1, e2, e3, if_neg Bool.false_ne_true] at kk
      exact kk
    | true =>
    rw [if_neg (by decide)]
    obtain ⟨c, ys, rfl, ec, hv⟩ := rw_parts hD hf e3 e2
    have hq2 : SqT K (upd H1 p2 (.tup [.str "read", .str "write"])) q (.str wd :: .int c :: ys) := t2 _ _ hq1
    refine ⟨_, rfl, q, _, 1, _, rfl, rfl, hq2, atI_n (j := 1) rfl, ?_⟩
    refine ⟨_, rfl, _, rfl, _, rfl, role, dev, c, rfl, _, rfl, ?_⟩
    have kk := k _ s2
    rw [e1, e2, e3, if_pos rfl, ec, Bool.true_and, Bool.true_and] at kk
    cases e4 : mayR role dev c with
    | false =>
      rw [e4, Bool.false_and] at kk
      exact kk
    | true =>
    rw [e4, Bool.true_and] at kk
    refine ⟨_, rfl, q, _, 0, _, rfl, rfl, hq2, atI_n (j := 0) rfl, rfl, _, rfl, ?_⟩
    show if decide (V.str wd = V.str "write") = true then _ else _
    rw [dec_s]
    cases e5 : wd == ("write" : Str) with
    | false =>
      rw [if_neg Bool.false_ne_true]
      rw [e5, Bool.false_and, if_neg Bool.false_ne_true] at kk
      exact kk
    | true =>
    rw [if_pos rfl]
    rw [e5, Bool.true_and] at kk
    refine ⟨_, rfl, _, rfl, dev, c, rfl, _, rfl, ?_⟩
    cases e6 : isTw dev c with
    | false =>
      rw [e6, if_neg Bool.false_ne_true] at kk
      exact kk
    | true =>
    rw [e6, if_pos rfl] at kk
    have ew : wd = "write" := eq_of_beq e5
    obtain ⟨v, d, rfl, ed, hdp⟩ := hv ew
    have wf := hw ew (by rw [ec]; exact e6)
    rw [ed] at wf kk
    refine ⟨_, rfl, q, _, 2, v, rfl, rfl, hq2, atI_n (j := 2) rfl, v, rfl, ?_⟩
    rcases wf with rfl | ⟨i, r, rfl⟩
    · cases hdp
      exact .inl ⟨rfl, kk⟩
    · cases hdp with
      | tup hs3 ha3 =>
        cases ha3 with
        | cons h1 t1 =>
          cases t1 with
          | cons h2 t3 =>
            cases t3
            cases h1
            cases h2
            exact .inr ⟨_, i, r, rfl, TSame.same s2 _ _ hs3, kk⟩
end
end Rb
namespace Rb
open PySem PySem.Spec PyProof.Rows L2
/-! ### what a guard does -/
/-- the entries behind a use -/
def useE (E : List (Key × V)) (p : Int) (wv : V) : List (Key × V) := if valV E (Sum.inl p) = none ∧ wv ≠ .non then putK E (Sum.inl p) wv else E
def spUse (K : PySem.W.Frag) : Sp := fun vs H Q _ => ∃ (L : GL) (G : GS) (p : Int) (r : Str) (wv : V), vs = [.ref L.g, .int p, .str r, wv] ∧ GuardAt (CG K) L H G ∧ L.all.Nodup ∧ G.ents.length < 4000 ∧
  (((valV G.ents (Sum.inl p)).getD wv = .non ∧ Q .non H) ∨ ∃ (t : Addr) (f : Int) (r' : Str), (valV G.ents (Sum.inl p)).getD wv = .ref t ∧ SqT K H t [.int f, .str r'] ∧
    ∀ H', GuardAt (CG K) L H' { G with ents := useE G.ents p wv } → (∀ b, b ∉ L.all → H' b = H b) → Q (if r' = r then .int f else .non) H')
theorem GuardAt.ents {C : Addr} {L : GL} {H : Hp} {G : GS} {e : List (Key × V)} (h : GuardAt C L H G) (n : L.all.Nodup) : GuardAt C L (upd H L.e (.dK e)) { G with ents := e } := by
  simp only [GL.all, List.nodup_cons, List.mem_cons, List.not_mem_nil, or_false, not_or] at n
  obtain ⟨⟨d1, d2, d3⟩, ⟨g1, g2⟩, e1, _⟩ := n
  exact ⟨(upd_ne g1).trans h.og, (upd_ne d2).trans h.od, upd_same, (upd_ne (Ne.symm e1)).trans h.oq⟩
theorem GuardAt.que {C : Addr} {L : GL} {H : Hp} {G : GS} {e : List V} (h : GuardAt C L H G) (n : L.all.Nodup) : GuardAt C L (upd H L.q (.lst e)) { G with que := e } := by
  simp only [GL.all, List.nodup_cons, List.mem_cons, List.not_mem_nil, or_false, not_or] at n
  obtain ⟨⟨d1, d2, d3⟩, ⟨g1, g2⟩, e1, _⟩ := n
  exact ⟨(upd_ne g2).trans h.og, (upd_ne d3).trans h.od, (upd_ne e1).trans h.oe, upd_same⟩
theorem GuardAt.tix {C : Addr} {L : GL} {H : Hp} {G : GS} {t : Int} (h : GuardAt C L H G) (n : L.all.Nodup) : GuardAt C L (upd H L.g (.ins C L.d (gFld L.e L.q t))) { G with tix := t } := by
  simp only [GL.all, List.nodup_cons, List.mem_cons, List.not_mem_nil, or_false, not_or] at n
  obtain ⟨⟨d1, d2, d3⟩, ⟨g1, g2⟩, e1, _⟩ := n
  exact ⟨upd_same, (upd_ne d1).trans h.od, (upd_ne (Ne.symm g1)).trans h.oe, (upd_ne (Ne.symm g2)).trans h.oq⟩
theorem GuardAt.tup {C : Addr} {L : GL} {H : Hp} {G : GS} {t : Addr} {o : HO} (h : GuardAt C L H G) (ht : H t = none) : GuardAt C L (upd H t o) G :=
  ⟨(upd_ne (ne_of_none h.og ht)).trans h.og, (upd_ne (ne_of_none h.od ht)).trans h.od, (upd_ne (ne_of_none h.oe ht)).trans h.oe, (upd_ne (ne_of_none h.oq ht)).trans h.oq⟩
section
variable {P : Program} {w : World} {K : PySem.W.Frag} {mg : Str → Option Value} {base : Heap}
theorem ok_use (T : Top K mg) : FnC P w K mg base CX0 1 (He.ma K (He.ga K "Guard") "use") (spUse K) := by
  refine fnc0 T.d_Guard_use sc_Guard_use (fun _ _ _ _ _ _ us hl => match us, hl with | [_, _, _, _], _ => rfl) (fun vs H Q E h => ?_) (fun cdv A outer s H vs Q E hr h => ?_)
  · obtain ⟨L, G, p, r, wv, rfl, _⟩ := h
    rfl
  · obtain ⟨L, G, p, r, wv, rfl, hG, nd, hl, h⟩ := h
    have hu := hu_of hr
    refine ⟨_, (pss_cons (ps_if (PW.pt (pw_and (pt_cmp (pc_dnotin hu (pv 1) (pe_fld (pv 0) rfl))) (pw_and1 (pt_cmp (pc_notN (pv 3)))))) (pss_one (ps_dput hu (pe_fld (pv 0) rfl) (pv 1) (pv 3) rfl)) pss_nil)
    (pss_cons (ps_set (i := 4) sc_Guard_use.nd rfl (Or.inl rfl) (pe_dget1 hu (pe_fld (pv 0) rfl) (pv 1) ⟨rfl, rfl, rfl, rfl⟩))
    (pss_cons (ps_if (pt_cmp (pc_isN (pv 4))) (pss_one (ps_ret pe_non)) pss_nil)
    (pss_cons (ps_asg (pv 4) (pg_tup rfl (pgs_cons (pg_name (i := 5) sc_Guard_use.nd rfl (Or.inl rfl)) (pgs_cons (pg_name (i := 6) sc_Guard_use.nd rfl (Or.inl rfl)) pgs_nil))))
    (pss_one (ps_ret (pe_ifExp (pt_cmpR op_eq (pv 6) (pv 2) (nomark _)) (pv 5) pe_non))))))), ?_⟩
    refine ⟨_, rfl, _, rfl, L.g, CG K, L.d, _, _, rfl, hG.og, T.cl_Guard, T.na_Guard__entries, lk_e, L.e, _, rfl, DGet.k (k := Sum.inl p) hG.oe, _, rfl, ?_⟩
    cases e1 : valV G.ents (Sum.inl p) with
    | some v0 =>
      rw [e1] at h
      have e2 : useE G.ents p wv = G.ents := by
        unfold useE
        rw [if_neg (fun z => by rw [e1] at z; cases z.1)]
      refine ⟨_, rfl, L.g, CG K, L.d, _, _, rfl, hG.og, T.cl_Guard, T.na_Guard__entries, lk_e, L.e, rfl, .inl ⟨_, .inl hG.oe⟩, _, rfl, _, DGet.k (k := Sum.inl p) hG.oe, ?_⟩
      rw [e1]
      refine ⟨_, rfl, _, rfl, ?_⟩
      show if decide (v0 = V.non) = true then _ else _
      rcases h with ⟨ev, k⟩ | ⟨t, f, r', ev, hq, k⟩
      · rw [if_pos (decide_eq_true (show v0 = V.non from ev))]
        exact k
      · have ev' : v0 = V.ref t := ev
        subst ev'
        rw [if_neg (by simp)]
        refine ⟨_, rfl, t, _, rfl, hq, rfl, _, _, rfl, _, _, rfl, rfl, ?_⟩
        refine ⟨_, rfl, _, rfl, rfl, _, rfl, ?_⟩
        have kk := k H (by rw [e2]; exact hG) fun _ _ => rfl
        by_cases e3 : r' = r
        · rw [if_pos e3] at kk
          show if decide (V.str r' = V.str r) = true then _ else _
          rw [if_pos (decide_eq_true (by rw [e3]))]
          exact ⟨_, rfl, kk⟩
        · rw [if_neg e3] at kk
          show if decide (V.str r' = V.str r) = true then _ else _
          rw [if_neg (by rw [decide_eq_true_eq]; intro z; exact e3 (by injection z))]
          exact kk
    | none =>
      rw [e1] at h
      refine ⟨_, rfl, _, rfl, ?_⟩
      show if (!decide (wv = V.non)) = true then _ else _
      by_cases e2 : wv = .non
      · subst e2
        rw [if_neg (by simp)]
        rcases h with ⟨_, k⟩ | ⟨t, f, r', ev, hq, k⟩
        · refine ⟨_, rfl, L.g, CG K, L.d, _, _, rfl, hG.og, T.cl_Guard, T.na_Guard__entries, lk_e, L.e, rfl, .inl ⟨_, .inl hG.oe⟩, _, rfl, _, DGet.k (k := Sum.inl p) hG.oe, ?_⟩
          rw [e1]
          refine ⟨_, rfl, _, rfl, ?_⟩
          show if decide (V.non = V.non) = true then _ else _
          rw [if_pos (by decide)]
          exact k
        · cases ev
      · rw [if_pos (by rw [decide_eq_false e2]; rfl)]
        rcases h with ⟨ev, _⟩ | ⟨t, f, r', ev, hq, k⟩
        · exact absurd ev e2
        · have ev' : wv = V.ref t := ev
          subst ev'
          have e3 : useE G.ents p (.ref t) = putK G.ents (Sum.inl p) (.ref t) := by
            unfold useE
            rw [if_pos ⟨e1, e2⟩]
          have hG1 := hG.ents (e := putK G.ents (Sum.inl p) (.ref t)) nd
          have ne : ∀ b, b ∉ L.all → upd H L.e (.dK (putK G.ents (Sum.inl p) (.ref t))) b = H b := fun b hb => upd_ne fun z => hb (by rw [z]; simp [GL.all])
          have hq1 : SqT K (upd H L.e (.dK (putK G.ents (Sum.inl p) (.ref t)))) t [.int f, .str r'] :=
            TSame.upd (fun xs z => by rw [hG.oe] at z; cases z) (fun ob xs z => by rw [hG.oe] at z; cases z) _ _ hq
          refine ⟨_, rfl, _, rfl, L.g, CG K, L.d, _, _, rfl, hG.og, T.cl_Guard, T.na_Guard__entries, lk_e, _, rfl, L.e, _, rfl, DPut.k (k := Sum.inl p) hG.oe (by rw [sizeLine_eq]; omega), ?_⟩
          refine ⟨_, rfl, L.g, CG K, L.d, _, _, rfl, hG1.og, T.cl_Guard, T.na_Guard__entries, lk_e, L.e, rfl, .inl ⟨_, .inl hG1.oe⟩, _, rfl, _, DGet.k (k := Sum.inl p) hG1.oe, ?_⟩
          have e4 : valV (putK G.ents (Sum.inl p) (.ref t)) (Sum.inl p) = some (.ref t) := by
            rw [valV_put, if_pos rfl]
          rw [e4]
          refine ⟨_, rfl, _, rfl, ?_⟩
          show if decide (V.ref t = V.non) = true then _ else _
          rw [if_neg (by simp)]
          refine ⟨_, rfl, t, _, rfl, hq1, rfl, _, _, rfl, _, _, rfl, rfl, ?_⟩
          refine ⟨_, rfl, _, rfl, rfl, _, rfl, ?_⟩
          have kk := k _ (by rw [e3]; exact hG1) ne
          by_cases e5 : r' = r
          · rw [if_pos e5] at kk
            show if decide (V.str r' = V.str r) = true then _ else _
            rw [if_pos (decide_eq_true (by rw [e5]))]
            exact ⟨_, rfl, kk⟩
          · rw [if_neg e5] at kk
            show if decide (V.str r' = V.str r) = true then _ else _
            rw [if_neg (by rw [decide_eq_true_eq]; intro z; exact e5 (by injection z))]
            exact kk
end
end Rb
namespace Rb
open PySem PySem.Spec PyProof.Rows L2
def spCommand (K : PySem.W.Frag) : Sp := fun vs H Q _ => ∃ (L : GL) (G : GS) (p : Int), vs = [.ref L.g, .int p] ∧ GuardAt (CG K) L H G ∧ L.all.Nodup ∧ G.que.length < 4000 ∧
  ∀ (t : Addr) H', H t = none → GuardAt (CG K) L H' { G with que := G.que ++ [.ref t], tix := G.tix + 1 } → H' t = some (.tup [.int p, .int (G.tix + 1)]) → (∀ b, b ∉ L.all → b ≠ t → H' b = H b) → Q (.int (G.tix + 1)) H'
def spDrop (K : PySem.W.Frag) : Sp := fun vs H Q _ => ∃ (L : GL) (G : GS), vs = [.ref L.g] ∧ GuardAt (CG K) L H G ∧ L.all.Nodup ∧
  ((G.que = [] ∧ Q .non H) ∨ ∃ (t : Addr) (p n : Int) (r : List V), G.que = .ref t :: r ∧ SqT K H t [.int p, .int n] ∧
    ∀ H', GuardAt (CG K) L H' { G with que := r, ents := dropK G.ents (Sum.inl p) } → (∀ b, b ∉ L.all → H' b = H b) → Q (.int n) H')
theorem gFld_put {e q : Addr} {n m : Int} : putF ("_tickets" : Str) (.int m) (gFld e q n) = gFld e q m := zp (i := 2) (by decide +kernel) rfl
theorem dropK_none {kvs : List (Key × V)} {k : Key} (h : valV kvs k = none) : dropK kvs k = kvs := by
  unfold dropK
  rw [List.filter_eq_self]
  intro a ha
  have := valV_not h
  rw [decide_eq_true_eq]
  intro z
  exact this (by rw [← z]; exact List.mem_map.mpr ⟨a, ha, rfl⟩)
theorem six0 {n : Nat} : seqIndex? 0 (n + 1) = some 0 := by
  simp [seqIndex?]
section
variable {P : Program} {w : World} {K : PySem.W.Frag} {mg : Str → Option Value} {base : Heap}
theorem ok_command (T : Top K mg) : FnC P w K mg base CX0 1 (He.ma K (He.ga K "Guard") "command") (spCommand K) := by
  refine fnc0 T.d_Guard_command sc_Guard_command (fun _ _ _ _ _ _ us hl => match us, hl with | [_, _], _ => rfl) (fun vs H Q E h => ?_) (fun cdv A outer s H vs Q E hr h => ?_)
  · obtain ⟨L, G, p, rfl, _⟩ := h
    rfl
  · obtain ⟨L, G, p, rfl, hG, nd, hl, k⟩ := h
    refine ⟨_, (pss_cons (ps_fldaug (pv 0) pe_int in_add)
    (pss_cons (ps_expr (pe_bm PySem.F.plainAttrs_list PySem.F.slot_list_append PySem.F.type_list_append mt_append (pe_fld (pv 0) rfl) (pa_cons (pe_tup (pa_cons (pv 1) (pa_cons (pe_fld (pv 0) rfl) pa_nil))) pa_nil)))
    (pss_one (ps_ret (pe_fld (pv 0) rfl))))), ?_⟩
    have hG1 := hG.tix (t := G.tix + 1) nd
    refine ⟨_, rfl, L.g, CG K, L.d, _, _, rfl, hG.og, T.cl_Guard, T.na_Guard__tickets, lk_t, _, _, rfl, rfl, _, _, hG.og, (by show 3 < 1000; omega), ?_⟩
    rw [gFld_put]
    refine ⟨_, rfl, L.g, CG K, L.d, _, _, rfl, hG1.og, T.cl_Guard, T.na_Guard__queue, lk_q, .inl ⟨rfl, _, SqL.of hG1.oq⟩, _, rfl, _, rfl, L.g, CG K, L.d, _, _, rfl, hG1.og, T.cl_Guard, T.na_Guard__tickets, lk_t, (by rw [sizeLine_eq]; show 2 ≤ _; omega), fun t ht => ?_⟩
    have ht0 : H t = none := (free_upd ht).2
    have hG2 := hG1.tup (o := .tup [.int p, .int (G.tix + 1)]) ht
    have hG3 := hG2.que (e := G.que ++ [.ref t]) nd
    refine ⟨L.q, _, _, rfl, rfl, hG2.oq, (by rw [sizeLine_eq]; show G.que.length < _; omega), ?_⟩
    refine ⟨_, rfl, L.g, CG K, L.d, _, _, rfl, hG3.og, T.cl_Guard, T.na_Guard__tickets, lk_t, ?_⟩
    refine k t _ ht0 hG3 ?_ ?_
    · rw [upd_ne (fun z => by rw [z] at ht; exact absurd ht (some_ne hG1.oq)), upd_same]
    · intro b hb hbt
      rw [upd_ne (fun z => hb (by rw [z]; simp [GL.all])), upd_ne hbt, upd_ne (fun z => hb (by rw [z]; simp [GL.all]))]
theorem ok_drop (T : Top K mg) : FnC P w K mg base CX0 1 (He.ma K (He.ga K "Guard") "drop") (spDrop K) := by
  refine fnc0 T.d_Guard_drop sc_Guard_drop (fun _ _ _ _ _ _ us hl => match us, hl with | [_], _ => rfl) (fun vs H Q E h => ?_) (fun cdv A outer s H vs Q E hr h => ?_)
  · obtain ⟨L, G, rfl, _⟩ := h
    rfl
  · obtain ⟨L, G, rfl, hG, nd, h⟩ := h
    have hu := hu_of hr
    refine ⟨_, (pss_cons (ps_if (pt_not (pt_truth (pe_fld (pv 0) rfl) (fun _ => rfl))) (pss_one (ps_ret pe_non)) pss_nil)
    (pss_cons (ps_asg (pe_bm PySem.F.plainAttrs_list PySem.F.slot_list_pop PySem.F.type_list_pop mt_popAt (pe_fld (pv 0) rfl) (pa_cons pe_int pa_nil)) (pg_tup rfl (pgs_cons (pg_name (i := 1) sc_Guard_drop.nd rfl (Or.inl rfl)) (pgs_cons (pg_name (i := 2) sc_Guard_drop.nd rfl (Or.inl rfl)) pgs_nil))))
    (pss_cons (ps_expr (pe_dpop2 (pe_fld (pv 0) rfl) (pv 1) pe_non ⟨rfl, rfl, rfl, rfl⟩))
    (pss_one (ps_ret (pv 2)))))), ?_⟩
    refine ⟨_, rfl, L.g, CG K, L.d, _, _, rfl, hG.og, T.cl_Guard, T.na_Guard__queue, lk_q, !G.que.isEmpty, .inl ⟨_, SqL.of hG.oq, rfl⟩, ?_⟩
    rcases h with ⟨e, k⟩ | ⟨t, p, n, r, e, hq, k⟩
    · rw [e]
      exact k
    · rw [e]
      have hq0 : H L.q = some (.lst (.ref t :: r)) := by rw [hG.oq, e]
      have hG1 := hG.que (e := r) nd
      have hq1 : SqT K (upd H L.q (.lst r)) t [.int p, .int n] := TSame.lst hG.oq _ _ hq
      refine ⟨_, rfl, L.g, CG K, L.d, _, _, rfl, hG.og, T.cl_Guard, T.na_Guard__queue, lk_q, .inl ⟨rfl, _, SqL.of hG.oq⟩, L.q, _, 0, 0, _, rfl, rfl, hq0, by decide, by decide, six0, rfl, ?_⟩
      refine ⟨t, _, rfl, hq1, rfl, _, _, rfl, _, _, rfl, rfl, ?_⟩
      have hG2 := hG1.ents (e := dropK G.ents (Sum.inl p)) nd
      refine ⟨_, rfl, L.g, CG K, L.d, _, _, rfl, hG1.og, T.cl_Guard, T.na_Guard__entries, lk_e, L.e, rfl, .inl ⟨_, .inl hG1.oe⟩, _, rfl, _, Sum.inl p, hG1.oe, rfl, fun v hv => ?_, fun hv => ?_⟩
      · refine ⟨_, rfl, k _ hG2 fun b hb => ?_⟩
        rw [upd_ne (fun z => hb (by rw [z]; simp [GL.all])), upd_ne (fun z => hb (by rw [z]; simp [GL.all]))]
      · refine ⟨_, rfl, k _ ?_ fun b hb => ?_⟩
        · rw [dropK_none hv]
          exact hG1
        · exact upd_ne (fun z => hb (by rw [z]; simp [GL.all]))
end
end Rb
namespace Rb
open PySem PySem.Spec PyProof.Rows L2
/-! ### a memory that changes in one place -/
def setG (g : Nat → GS) (d : Nat) (x : GS) : Nat → GS := fun i => if i = d then x else g i
theorem setG_same {g : Nat → GS} {d : Nat} {x : GS} : setG g d x d = x := if_pos rfl
theorem setG_ne {g : Nat → GS} {d i : Nat} {x : GS} (h : i ≠ d) : setG g d x i = g i := if_neg h
/-- the other parts of a memory are apart from a guard's -/
structure Apart (L : ML) (S : List Addr) : Prop where
  m : L.m ∉ S
  d : L.d ∉ S
  aG : L.aG ∉ S
  aC : L.aC ∉ S
  aB : L.aB ∉ S
  b0 : L.bl 0 ∉ S
  b1 : L.bl 1 ∉ S
  aJ : L.aJ ∉ S
  aL : L.aL ∉ S
theorem ML.apart {L : ML} {d : Nat} (hd : d < 2) (n : L.all.Nodup) : Apart L (L.gs d).all ∧ (L.gs d).all.Nodup ∧ ∀ i, i < 2 → i ≠ d → ∀ b ∈ (L.gs i).all, b ∉ (L.gs d).all := by
  unfold ML.all at n
  rw [List.nodup_append, List.nodup_append, List.nodup_append] at n
  obtain ⟨⟨⟨_, n0, h0⟩, n1, h1⟩, _, h2⟩ := n
  have a0 : ∀ x ∈ [L.m, L.d, L.aG], x ∉ (L.gs 0).all := fun x hx z => h0 x hx x z rfl
  have a1 : ∀ x ∈ [L.m, L.d, L.aG], x ∉ (L.gs 1).all := fun x hx z => h1 x (List.mem_append_left _ hx) x z rfl
  have c0 : ∀ x ∈ [L.aC, L.aB, L.bl 0, L.bl 1, L.aJ, L.aL], x ∉ (L.gs 0).all := fun x hx z => h2 x (List.mem_append_left _ (List.mem_append_right _ z)) x hx rfl
  have c1 : ∀ x ∈ [L.aC, L.aB, L.bl 0, L.bl 1, L.aJ, L.aL], x ∉ (L.gs 1).all := fun x hx z => h2 x (List.mem_append_right _ z) x hx rfl
  have g01 : ∀ x ∈ (L.gs 0).all, x ∉ (L.gs 1).all := fun x hx z => h1 x (List.mem_append_right _ hx) x z rfl
  rcases lt2 hd with rfl | rfl
  · refine ⟨⟨a0 _ (by simp), a0 _ (by simp), a0 _ (by simp), c0 _ (by simp), c0 _ (by simp), c0 _ (by simp), c0 _ (by simp), c0 _ (by simp), c0 _ (by simp)⟩, n0, fun i hi ne b hb => ?_⟩
    rcases lt2 hi with rfl | rfl
    · exact absurd rfl ne
    · exact fun z => g01 b z hb
  · refine ⟨⟨a1 _ (by simp), a1 _ (by simp), a1 _ (by simp), c1 _ (by simp), c1 _ (by simp), c1 _ (by simp), c1 _ (by simp), c1 _ (by simp), c1 _ (by simp)⟩, n1, fun i hi ne b hb => ?_⟩
    rcases lt2 hi with rfl | rfl
    · exact g01 b hb
    · exact absurd rfl ne
/-- one guard changes -/
theorem MemAt.guard {Cm Cg : Addr} {L : ML} {H H' : Hp} {M : MS} {d : Nat} {G : GS} (h : MemAt Cm Cg L H M) (hd : d < 2) (hG : GuardAt Cg (L.gs d) H' G) (k : ∀ b ∈ L.all, b ∉ (L.gs d).all → H' b = H b) : MemAt Cm Cg L H' { M with gs := setG M.gs d G } := by
  obtain ⟨A, _, B⟩ := ML.apart hd h.nd
  refine ⟨(k _ (by simp [ML.all]) A.m).trans h.om, (k _ (by simp [ML.all]) A.d).trans h.od, (k _ (by simp [ML.all]) A.aG).trans h.og, (k _ (by simp [ML.all]) A.aC).trans h.oc, (k _ (by simp [ML.all]) A.aB).trans h.ob, fun i hi => ?_,
    (k _ (by simp [ML.all]) A.aJ).trans h.oj, (k _ (by simp [ML.all]) A.aL).trans h.ol, fun i hi => ?_, h.nd⟩
  · refine (k _ (ML.in_b hi) ?_).trans (h.obl i hi)
    rcases lt2 hi with rfl | rfl
    · exact A.b0
    · exact A.b1
  · by_cases e : i = d
    · subst e
      show GuardAt Cg (L.gs i) H' (setG M.gs i G i)
      rw [setG_same]
      exact hG
    · show GuardAt Cg (L.gs i) H' (setG M.gs d G i)
      rw [setG_ne e]
      exact (h.gu i hi).keep fun b hb => k b (ML.in_g hi hb) (B i hi e b hb)
/-- the lists of a memory are apart from all the rest -/
structure Tail (L : ML) (z : Addr) : Prop where
  m : L.m ≠ z
  d : L.d ≠ z
  aG : L.aG ≠ z
  g : ∀ i, i < 2 → ∀ b ∈ (L.gs i).all, b ≠ z
theorem ML.tail {L : ML} (n : L.all.Nodup) : (∀ z ∈ [L.aC, L.aB, L.bl 0, L.bl 1, L.aJ, L.aL], Tail L z) ∧ [L.aC, L.aB, L.bl 0, L.bl 1, L.aJ, L.aL].Nodup := by
  unfold ML.all at n
  rw [List.nodup_append] at n
  obtain ⟨_, nc, h2⟩ := n
  refine ⟨fun z hz => ⟨h2 _ ?_ z hz, h2 _ ?_ z hz, h2 _ ?_ z hz, fun i hi b hb => h2 b ?_ z hz⟩, nc⟩
  · simp
  · simp
  · simp
  · rcases lt2 hi with rfl | rfl
    · exact List.mem_append_left _ (List.mem_append_right _ hb)
    · exact List.mem_append_right _ hb
section
variable {Cm Cg : Addr} {L : ML} {H : Hp} {M : MS} {xs : List V}
theorem MemAt.wcells (h : MemAt Cm Cg L H M) : MemAt Cm Cg L (upd H L.aC (.lst xs)) { M with cells := xs } := by
  obtain ⟨t, n⟩ := ML.tail h.nd
  have T := t L.aC (by simp)
  simp only [List.nodup_cons, List.mem_cons, List.not_mem_nil, or_false, not_or] at n
  obtain ⟨⟨c1, c2, c3, c4, c5⟩, ⟨b1, b2, b3, b4⟩, ⟨p1, p2, p3⟩, ⟨q1, q2⟩, j1, _⟩ := n
  refine ⟨(upd_ne T.m).trans h.om, (upd_ne T.d).trans h.od, (upd_ne T.aG).trans h.og, upd_same, (upd_ne (Ne.symm c1)).trans h.ob, fun i hi => ?_, (upd_ne (Ne.symm c4)).trans h.oj, (upd_ne (Ne.symm c5)).trans h.ol, fun i hi => (h.gu i hi).keep fun b hb => upd_ne (T.g i hi b hb), h.nd⟩
  rcases lt2 hi with rfl | rfl
  · exact (upd_ne (Ne.symm c2)).trans (h.obl 0 hi)
  · exact (upd_ne (Ne.symm c3)).trans (h.obl 1 hi)
theorem MemAt.wjo (h : MemAt Cm Cg L H M) : MemAt Cm Cg L (upd H L.aJ (.lst xs)) { M with jo := xs } := by
  obtain ⟨t, n⟩ := ML.tail h.nd
  have T := t L.aJ (by simp)
  simp only [List.nodup_cons, List.mem_cons, List.not_mem_nil, or_false, not_or] at n
  obtain ⟨⟨c1, c2, c3, c4, c5⟩, ⟨b1, b2, b3, b4⟩, ⟨p1, p2, p3⟩, ⟨q1, q2⟩, j1, _⟩ := n
  refine ⟨(upd_ne T.m).trans h.om, (upd_ne T.d).trans h.od, (upd_ne T.aG).trans h.og, (upd_ne c4).trans h.oc, (upd_ne b3).trans h.ob, fun i hi => ?_, upd_same, (upd_ne (Ne.symm j1)).trans h.ol, fun i hi => (h.gu i hi).keep fun b hb => upd_ne (T.g i hi b hb), h.nd⟩
  rcases lt2 hi with rfl | rfl
  · exact (upd_ne p2).trans (h.obl 0 hi)
  · exact (upd_ne q1).trans (h.obl 1 hi)
theorem MemAt.wlog (h : MemAt Cm Cg L H M) : MemAt Cm Cg L (upd H L.aL (.lst xs)) { M with log := xs } := by
  obtain ⟨t, n⟩ := ML.tail h.nd
  have T := t L.aL (by simp)
  simp only [List.nodup_cons, List.mem_cons, List.not_mem_nil, or_false, not_or] at n
  obtain ⟨⟨c1, c2, c3, c4, c5⟩, ⟨b1, b2, b3, b4⟩, ⟨p1, p2, p3⟩, ⟨q1, q2⟩, j1, _⟩ := n
  refine ⟨(upd_ne T.m).trans h.om, (upd_ne T.d).trans h.od, (upd_ne T.aG).trans h.og, (upd_ne c5).trans h.oc, (upd_ne b4).trans h.ob, fun i hi => ?_, (upd_ne j1).trans h.oj, upd_same, fun i hi => (h.gu i hi).keep fun b hb => upd_ne (T.g i hi b hb), h.nd⟩
  rcases lt2 hi with rfl | rfl
  · exact (upd_ne p3).trans (h.obl 0 hi)
  · exact (upd_ne q2).trans (h.obl 1 hi)
def setB (g : Nat → List V) (d : Nat) (x : List V) : Nat → List V := fun i => if i = d then x else g i
theorem MemAt.wbl (h : MemAt Cm Cg L H M) {d : Nat} (hd : d < 2) : MemAt Cm Cg L (upd H (L.bl d) (.lst xs)) { M with bl := setB M.bl d xs } := by
  obtain ⟨t, n⟩ := ML.tail h.nd
  simp only [List.nodup_cons, List.mem_cons, List.not_mem_nil, or_false, not_or] at n
  obtain ⟨⟨c1, c2, c3, c4, c5⟩, ⟨b1, b2, b3, b4⟩, ⟨p1, p2, p3⟩, ⟨q1, q2⟩, j1, _⟩ := n
  rcases lt2 hd with rfl | rfl
  · have T := t (L.bl 0) (by simp)
    refine ⟨(upd_ne T.m).trans h.om, (upd_ne T.d).trans h.od, (upd_ne T.aG).trans h.og, (upd_ne c2).trans h.oc, (upd_ne b1).trans h.ob, fun i hi => ?_, (upd_ne (Ne.symm p2)).trans h.oj, (upd_ne (Ne.symm p3)).trans h.ol, fun i hi => (h.gu i hi).keep fun b hb => upd_ne (T.g i hi b hb), h.nd⟩
    rcases lt2 hi with rfl | rfl
    · exact upd_same
    · exact (upd_ne (Ne.symm p1)).trans (h.obl 1 hi)
  · have T := t (L.bl 1) (by simp)
    refine ⟨(upd_ne T.m).trans h.om, (upd_ne T.d).trans h.od, (upd_ne T.aG).trans h.og, (upd_ne c3).trans h.oc, (upd_ne b2).trans h.ob, fun i hi => ?_, (upd_ne (Ne.symm q1)).trans h.oj, (upd_ne (Ne.symm q2)).trans h.ol, fun i hi => (h.gu i hi).keep fun b hb => upd_ne (T.g i hi b hb), h.nd⟩
    rcases lt2 hi with rfl | rfl
    · exact (upd_ne p1).trans (h.obl 0 hi)
    · exact upd_same
/-- a new thing -/
theorem MemAt.new {p : Addr} {o : HO} (h : MemAt Cm Cg L H M) (hp : H p = none) : MemAt Cm Cg L (upd H p o) M := h.same (Same.new (Same.refl H) hp)
end
end Rb
namespace Rb
open PySem PySem.Spec PyProof.Rows L2
/-! ### dma and drop -/
/-- what a use finds: nothing, or a frame with its right -/
def spDmaCell (K : PySem.W.Frag) : Sp := fun vs H Q _ => ∃ (L : ML) (M : MS) (d p : Nat) (i : Int) (r : Str) (wv : V), vs = [.ref L.m, .int (d : Int), .int (p : Int), .int i, .str r] ∧ MemAt (CM K) (CG K) L H M ∧ d < 2 ∧
  M.cells[56 + d * 6 + p]? = some wv ∧ (M.gs d).ents.length < 4000 ∧
  (((valV (M.gs d).ents (Sum.inl (p : Int))).getD wv = .non ∧ Q .non H) ∨ ∃ (t : Addr) (f : Int) (r' : Str), (valV (M.gs d).ents (Sum.inl (p : Int))).getD wv = .ref t ∧ SqT K H t [.int f, .str r'] ∧
    ∀ H', MemAt (CM K) (CG K) L H' { M with gs := setG M.gs d { M.gs d with ents := useE (M.gs d).ents (p : Int) wv } } → (∀ b, b ∉ L.all → H' b = H b) → Q (if r' = r then .int (fcell (d : Int) f i) else .non) H')
theorem tword_nat {d p : Nat} : tword (d : Int) (p : Int) = ((56 + d * 6 + p : Nat) : Int) := by
  unfold tword
  omega
section
variable {P : Program} {w : World} {K : PySem.W.Frag} {mg : Str → Option Value} {base : Heap}
theorem ok_dma_cell (T : Top K mg) : FnC P w K mg base CX0 4 (He.ma K (He.ga K "Memory") "_dma_cell") (spDmaCell K) := by
  have G_table_word := ok_table_word (P := P) (w := w) (base := base) T
  have G_frame_cell := ok_frame_cell (P := P) (w := w) (base := base) T
  have G_Guard_use := ok_use (P := P) (w := w) (base := base) T
  refine fnc0 T.d_Memory__dma_cell sc_Memory__dma_cell (fun _ _ _ _ _ _ us hl => match us, hl with | [_, _, _, _, _], _ => rfl) (fun vs H Q E h => ?_) (fun cdv A outer s H vs Q E hr h => ?_)
  · obtain ⟨L, M, d, p, i, r, wv, rfl, _⟩ := h
    rfl
  · obtain ⟨L, M, d, p, i, r, wv, rfl, hM, hd, hw, hl, h⟩ := h
    refine ⟨_, (pss_cons (ps_set (i := 5) sc_Memory__dma_cell.nd rfl (Or.inl rfl) (pe_ix ix_list (pe_fld (pv 0) rfl) (pe_f G_table_word hr (by decide) (by rfl) T.g_table_word pass0 (pa_cons (pv 1) (pa_cons (pv 2) pa_nil))) (fun _ _ => rfl)))
    (pss_cons (ps_set (i := 6) sc_Memory__dma_cell.nd rfl (Or.inl rfl) (pe_m G_Guard_use hr (by decide) T.cl_Guard T.me_Guard_use pass0 (pe_ix ix_list (pe_fld (pv 0) rfl) (pv 1) (fun _ _ => rfl)) (pa_cons (pv 2) (pa_cons (pv 4) (pa_cons (pv 5) pa_nil)))))
    (pss_one (ps_ret (pe_ifExp (pt_cmp (pc_isN (pv 6))) pe_non (pe_f G_frame_cell hr (by decide) (by rfl) T.g_frame_cell pass0 (pa_cons (pv 1) (pa_cons (pv 6) (pa_cons (pv 3) pa_nil))))))))), ?_⟩
    obtain ⟨_, ndg, _⟩ := ML.apart hd hM.nd
    have hb : ([V.ref (L.gs 0).g, V.ref (L.gs 1).g] : List V)[d]? = some (V.ref (L.gs d).g) := by
      rcases lt2 hd with rfl | rfl <;> rfl
    have hG := hM.gu d hd
    refine ⟨_, rfl, L.m, CM K, L.d, _, _, rfl, hM.om, T.cl_Memory, T.na_Memory__cells, lm_C, _, rfl, _, rfl, _, _, rfl, L.aC, M.cells, _, _, rfl, rfl, SqL.of hM.oc, by rw [tword_nat]; exact atI_n hw, ?_⟩
    refine ⟨_, rfl, L.m, CM K, L.d, _, _, rfl, hM.om, T.cl_Memory, T.na_Memory_guards, lm_g, _, rfl, L.aG, _, _, _, rfl, rfl, SqL.of hM.og, atI_n hb, (L.gs d).g, (L.gs d).d, _, rfl, hG.og, ?_, _, rfl, _, rfl, _, rfl, L.gs d, M.gs d, (p : Int), r, wv, rfl, hG, ndg, hl, ?_⟩
    · exact zn (by decide +kernel)
    · rcases h with ⟨ev, k⟩ | ⟨t, f, r', ev, hq, k⟩
      · refine .inl ⟨ev, ?_⟩
        refine ⟨_, rfl, _, rfl, ?_⟩
        show if decide (V.non = V.non) = true then _ else _
        rw [if_pos (by decide)]
        exact k
      · refine .inr ⟨t, f, r', ev, hq, fun H' hG' ke => ?_⟩
        have hM' := hM.guard hd hG' fun b _ hb2 => ke b hb2
        have kk := k H' hM' fun b hb2 => ke b fun z => hb2 (ML.in_g hd z)
        by_cases e : r' = r
        · rw [if_pos e] at kk ⊢
          refine ⟨_, rfl, _, rfl, ?_⟩
          show if decide (V.int f = V.non) = true then _ else _
          rw [if_neg (by simp)]
          exact ⟨_, rfl, _, rfl, _, rfl, _, _, _, rfl, kk⟩
        · rw [if_neg e] at kk ⊢
          refine ⟨_, rfl, _, rfl, ?_⟩
          show if decide (V.non = V.non) = true then _ else _
          rw [if_pos (by decide)]
          exact kk
end
end Rb
namespace Rb
open PySem PySem.Spec PyProof.Rows L2
/-- the guards of a memory behind a use -/
def useG (M : MS) (d : Nat) (p : Int) (wv : V) : Nat → GS := setG M.gs d { M.gs d with ents := useE (M.gs d).ents p wv }
def spDma (K : PySem.W.Frag) (rt : Str) (rest : List V) (no : V) (yes : ML → MS → Nat → Nat → Hp → VK → Prop) : Sp := fun vs H Q _ => ∃ (L : ML) (M : MS) (d p i : Nat) (wv : V), vs = [.ref L.m, .int (d : Int), .int (p : Int), .int (i : Int)] ++ rest ∧ MemAt (CM K) (CG K) L H M ∧ d < 2 ∧
  M.cells[56 + d * 6 + p]? = some wv ∧ (M.gs d).ents.length < 4000 ∧
  (((valV (M.gs d).ents (Sum.inl (p : Int))).getD wv = .non ∧ Q no H) ∨ ∃ (t : Addr) (f : Nat) (r' : Str), (valV (M.gs d).ents (Sum.inl (p : Int))).getD wv = .ref t ∧ SqT K H t [.int (f : Int), .str r'] ∧
    ∀ H', MemAt (CM K) (CG K) L H' { M with gs := useG M d (p : Int) wv } → (∀ b, b ∉ L.all → H' b = H b) → (r' ≠ rt → Q no H') ∧ (r' = rt → (d * 6 + f) * 4 + i < M.cells.length ∧ yes L { M with gs := useG M d (p : Int) wv } d ((d * 6 + f) * 4 + i) H' Q))
def spDmaRead (K : PySem.W.Frag) : Sp := spDma K "r" [] .non fun L M _ j H' Q => ∀ q x, M.cells[j]? = some x → H' q = none → Q (.ref q) (upd H' q (.tup [x]))
def spDmaWrite (K : PySem.W.Frag) : Sp := fun vs H Q E => ∃ v, spDma K "w" [v] (.bl false) (fun L M _ j H' Q => Q (.bl true) (upd H' L.aC (.lst (M.cells.set j v)))) vs H Q E
theorem fcell_nat {d f i : Nat} : fcell (d : Int) (f : Int) (i : Int) = (((d * 6 + f) * 4 + i : Nat) : Int) := by
  unfold fcell
  omega
section
variable {P : Program} {w : World} {K : PySem.W.Frag} {mg : Str → Option Value} {base : Heap}
theorem ok_dma_read (T : Top K mg) : FnC P w K mg base CX0 5 (He.ma K (He.ga K "Memory") "_dma_read") (spDmaRead K) := by
  have G_Memory__dma_cell := ok_dma_cell (P := P) (w := w) (base := base) T
  refine fnc0 T.d_Memory__dma_read sc_Memory__dma_read (fun _ _ _ _ _ _ us hl => match us, hl with | [_, _, _, _], _ => rfl) (fun vs H Q E h => ?_) (fun cdv A outer s H vs Q E hr h => ?_)
  · obtain ⟨L, M, d, p, i, wv, rfl, _⟩ := h
    rfl
  · obtain ⟨L, M, d, p, i, wv, rfl, hM, hd, hw, hl, h⟩ := h
    refine ⟨_, (pss_cons (ps_set (i := 4) sc_Memory__dma_read.nd rfl (Or.inl rfl) (pe_m G_Memory__dma_cell hr (by decide) T.cl_Memory T.me_Memory__dma_cell pass0 (pv 0) (pa_cons (pv 1) (pa_cons (pv 2) (pa_cons (pv 3) (pa_cons pe_str pa_nil))))))
    (pss_one (ps_ret (pe_ifExp (pt_cmp (pc_isN (pv 4))) pe_non (pe_tup (pa_cons (pe_ix ix_list (pe_fld (pv 0) rfl) (pv 4) (fun _ _ => rfl)) pa_nil)))))), ?_⟩
    refine ⟨_, rfl, L.m, L.d, _, rfl, hM.om, zn (by decide +kernel), _, rfl, _, rfl, _, rfl, L, M, d, p, (i : Int), "r", wv, rfl, hM, hd, hw, hl, ?_⟩
    rcases h with ⟨ev, k⟩ | ⟨t, f, r', ev, hq, k⟩
    · refine .inl ⟨ev, ?_⟩
      refine ⟨_, rfl, _, rfl, ?_⟩
      show if decide (V.non = V.non) = true then _ else _
      rw [if_pos (by decide)]
      exact k
    · refine .inr ⟨t, f, r', ev, hq, fun H' hM' ke => ?_⟩
      obtain ⟨kn, ky⟩ := k H' hM' ke
      by_cases e : r' = "r"
      · rw [if_pos e]
        obtain ⟨hj, ky⟩ := ky e
        have hx : M.cells[(d * 6 + f) * 4 + i]? = some (M.cells[(d * 6 + f) * 4 + i]'hj) := List.getElem?_eq_getElem hj
        refine ⟨_, rfl, _, rfl, ?_⟩
        show if decide (V.int (fcell (d : Int) (f : Int) (i : Int)) = V.non) = true then _ else _
        rw [if_neg (by simp)]
        refine ⟨_, rfl, L.m, CM K, L.d, _, _, rfl, hM'.om, T.cl_Memory, T.na_Memory__cells, lm_C, _, rfl, L.aC, M.cells, _, _, rfl, rfl, SqL.of hM'.oc, by rw [fcell_nat]; exact atI_n hx, (by rw [sizeLine_eq]; show 1 ≤ _; omega), fun q hq2 => ?_⟩
        exact ky q _ hx hq2
      · rw [if_neg e]
        refine ⟨_, rfl, _, rfl, ?_⟩
        show if decide (V.non = V.non) = true then _ else _
        rw [if_pos (by decide)]
        exact kn e
theorem ok_dma_write (T : Top K mg) : FnC P w K mg base CX0 5 (He.ma K (He.ga K "Memory") "_dma_write") (spDmaWrite K) := by
  have G_Memory__dma_cell := ok_dma_cell (P := P) (w := w) (base := base) T
  refine fnc0 T.d_Memory__dma_write sc_Memory__dma_write (fun _ _ _ _ _ _ us hl => match us, hl with | [_, _, _, _, _], _ => rfl) (fun vs H Q E h => ?_) (fun cdv A outer s H vs Q E hr h => ?_)
  · obtain ⟨v, L, M, d, p, i, wv, rfl, _⟩ := h
    rfl
  · obtain ⟨v, L, M, d, p, i, wv, rfl, hM, hd, hw, hl, h⟩ := h
    refine ⟨_, (pss_cons (ps_set (i := 5) sc_Memory__dma_write.nd rfl (Or.inl rfl) (pe_m G_Memory__dma_cell hr (by decide) T.cl_Memory T.me_Memory__dma_cell pass0 (pv 0) (pa_cons (pv 1) (pa_cons (pv 2) (pa_cons (pv 3) (pa_cons pe_str pa_nil))))))
    (pss_cons (ps_if (pt_cmp (pc_isN (pv 5))) (pss_one (ps_ret pe_bl)) pss_nil)
    (pss_cons (ps_asg (pv 4) (pg_sub (pe_fld (pv 0) rfl) (pv 5) set_list))
    (pss_one (ps_ret pe_bl))))), ?_⟩
    refine ⟨_, rfl, L.m, L.d, _, rfl, hM.om, zn (by decide +kernel), _, rfl, _, rfl, _, rfl, L, M, d, p, (i : Int), "w", wv, rfl, hM, hd, hw, hl, ?_⟩
    rcases h with ⟨ev, k⟩ | ⟨t, f, r', ev, hq, k⟩
    · refine .inl ⟨ev, ?_⟩
      refine ⟨_, rfl, _, rfl, ?_⟩
      show if decide (V.non = V.non) = true then _ else _
      rw [if_pos (by decide)]
      exact k
    · refine .inr ⟨t, f, r', ev, hq, fun H' hM' ke => ?_⟩
      obtain ⟨kn, ky⟩ := k H' hM' ke
      by_cases e : r' = "w"
      · rw [if_pos e]
        obtain ⟨hj, ky⟩ := ky e
        refine ⟨_, rfl, _, rfl, ?_⟩
        show if decide (V.int (fcell (d : Int) (f : Int) (i : Int)) = V.non) = true then _ else _
        rw [if_neg (by simp)]
        refine ⟨_, rfl, _, rfl, L.m, CM K, L.d, _, _, rfl, hM'.om, T.cl_Memory, T.na_Memory__cells, lm_C, _, rfl, L.aC, M.cells, _, (d * 6 + f) * 4 + i, rfl, rfl, hM'.oc, ?_, ?_⟩
        · rw [fcell_nat]
          exact ixN_in (by omega) (by omega)
        · exact ky
      · rw [if_neg e]
        refine ⟨_, rfl, _, rfl, ?_⟩
        show if decide (V.non = V.non) = true then _ else _
        rw [if_pos (by decide)]
        exact kn e
end
end Rb
namespace Rb
open PySem PySem.Spec PyProof.Rows L2
/-- the guards of a memory behind a drop -/
def dropG (M : MS) (d : Nat) (p : Int) (r : List V) : Nat → GS := setG M.gs d { M.gs d with que := r, ents := dropK (M.gs d).ents (Sum.inl p) }
def spMDrop (K : PySem.W.Frag) : Sp := fun vs H Q _ => ∃ (L : ML) (M : MS) (d : Nat), vs = [.ref L.m, .int (d : Int)] ∧ MemAt (CM K) (CG K) L H M ∧ d < 2 ∧ M.cells.length = 70 ∧
  (((M.gs d).que = [] ∧ Q (.bl false) H) ∨ ∃ (t : Addr) (p n : Int) (r : List V), (M.gs d).que = .ref t :: r ∧ SqT K H t [.int p, .int n] ∧
    ∀ H', MemAt (CM K) (CG K) L H' { M with gs := dropG M d p r, cells := M.cells.set (68 + d) (.int n) } → (∀ b, b ∉ L.all → H' b = H b) → Q (.bl true) H')
section
variable {P : Program} {w : World} {K : PySem.W.Frag} {mg : Str → Option Value} {base : Heap}
theorem ok_mdrop (T : Top K mg) : FnC P w K mg base CX0 5 (He.ma K (He.ga K "Memory") "_drop") (spMDrop K) := by
  have G_acknowledge := ok_acknowledge (P := P) (w := w) (base := base) T
  have G_Guard_drop := ok_drop (P := P) (w := w) (base := base) T
  refine fnc0 T.d_Memory__drop sc_Memory__drop (fun _ _ _ _ _ _ us hl => match us, hl with | [_, _], _ => rfl) (fun vs H Q E h => ?_) (fun cdv A outer s H vs Q E hr h => ?_)
  · obtain ⟨L, M, d, rfl, _⟩ := h
    rfl
  · obtain ⟨L, M, d, rfl, hM, hd, h70, h⟩ := h
    refine ⟨_, (pss_cons (ps_set (i := 2) sc_Memory__drop.nd rfl (Or.inl rfl) (pe_m0 G_Guard_drop hr (by decide) T.cl_Guard T.me_Guard_drop pass0 (pe_ix ix_list (pe_fld (pv 0) rfl) (pv 1) (fun _ _ => rfl))))
    (pss_cons (ps_if (pt_cmp (pc_isN (pv 2))) (pss_one (ps_ret pe_bl)) pss_nil)
    (pss_cons (ps_asg (pv 2) (pg_sub (pe_fld (pv 0) rfl) (pe_f G_acknowledge hr (by decide) (by rfl) T.g_acknowledge pass0 (pa_cons (pv 1) pa_nil)) set_list))
    (pss_one (ps_ret pe_bl))))), ?_⟩
    obtain ⟨_, ndg, _⟩ := ML.apart hd hM.nd
    have hb : ([V.ref (L.gs 0).g, V.ref (L.gs 1).g] : List V)[d]? = some (V.ref (L.gs d).g) := by
      rcases lt2 hd with rfl | rfl <;> rfl
    have hG := hM.gu d hd
    refine ⟨_, rfl, L.m, CM K, L.d, _, _, rfl, hM.om, T.cl_Memory, T.na_Memory_guards, lm_g, _, rfl, L.aG, _, _, _, rfl, rfl, SqL.of hM.og, atI_n hb, (L.gs d).g, (L.gs d).d, _, rfl, hG.og, zn (by decide +kernel), L.gs d, M.gs d, rfl, hG, ndg, ?_⟩
    rcases h with ⟨e, k⟩ | ⟨t, p, n, r, e, hq, k⟩
    · refine .inl ⟨e, ?_⟩
      refine ⟨_, rfl, _, rfl, ?_⟩
      show if decide (V.non = V.non) = true then _ else _
      rw [if_pos (by decide)]
      exact k
    · refine .inr ⟨t, p, n, r, e, hq, fun H' hG' ke => ?_⟩
      have hM' := hM.guard hd hG' fun b _ hb2 => ke b hb2
      refine ⟨_, rfl, _, rfl, ?_⟩
      show if decide (V.int n = V.non) = true then _ else _
      rw [if_neg (by simp)]
      refine ⟨_, rfl, _, rfl, L.m, CM K, L.d, _, _, rfl, hM'.om, T.cl_Memory, T.na_Memory__cells, lm_C, _, rfl, _, rfl, L.aC, M.cells, _, 68 + d, rfl, rfl, hM'.oc, ?_, ?_⟩
      · have ea : ackw (d : Int) = ((68 + d : Nat) : Int) := by
          unfold ackw
          omega
        rw [ea]
        exact ixN_in (by omega) (by omega)
      · refine k _ hM'.wcells fun b hb2 => ?_
        rw [upd_ne (fun z => hb2 (by rw [z]; simp [ML.all]))]
        exact ke b fun z => hb2 (ML.in_g hd z)
end
end Rb
namespace Rb
open PySem PySem.Spec PyProof.Rows L2
/-! ### what a request brings -/
inductive ResP (K : PySem.W.Frag) (L : ML) (M : MS) (d : Nat) (H : Hp) (Q : VK) : Str → List V → Prop
  | read {c : Nat} {x : V} (h : M.cells[c]? = some x) (k : Q x H) : ResP K L M d H Q "read" [.int (c : Int)]
  | write {c : Nat} {v : V} (h : c < M.cells.length) (k : Q .non (upd H L.aC (.lst (M.cells.set c v)))) : ResP K L M d H Q "write" [.int (c : Int), v]
  | dmaRead {p i : V} (k : spDmaRead K [.ref L.m, .int (d : Int), p, i] H Q E0) : ResP K L M d H Q "dma read" [p, i]
  | dmaWrite {p i v : V} (k : spDmaWrite K [.ref L.m, .int (d : Int), p, i, v] H Q E0) : ResP K L M d H Q "dma write" [p, i, v]
  | command {p : V} (k : spCommand K [.ref (L.gs d).g, p] H Q E0) : ResP K L M d H Q "command" [p]
  | drop (k : spMDrop K [.ref L.m, .int (d : Int)] H Q E0) : ResP K L M d H Q "drop" []
  | fetch {b : Nat} {x y z : V} (h : (M.bl d)[b]? = some x) (k : Q x H) : ResP K L M d H Q "fetch" [.int (b : Int), y, z]
  | commit {b : Nat} {v y z : V} {j : Addr} {js : List V} (h : b < (M.bl d).length) (hj : M.jo[d]? = some (.ref j)) (hs : SqT K H j js) (hl : js.length < 4000)
      (k : ∀ t u, H t = none → H u = none → u ≠ t → Q .non (upd (upd (upd (upd H (L.bl d) (.lst ((M.bl d).set b v))) t (.tup [y, z])) u (.tup (js ++ [.ref t]))) L.aJ (.lst (M.jo.set d (.ref u))))) : ResP K L M d H Q "commit" [.int (b : Int), v, y, z]
  | journal {x : V} (h : M.jo[d]? = some x) (k : Q x H) : ResP K L M d H Q "journal" []
  | tell {v : V} (h : d < M.jo.length) (k : Q .non (upd H L.aJ (.lst (M.jo.set d v)))) : ResP K L M d H Q "tell" [v]
def spResult (K : PySem.W.Frag) : Sp := fun vs H Q _ => ∃ (L : ML) (M : MS) (d : Nat) (q : Addr) (wd : Str) (xs : List V), vs = [.ref L.m, .int (d : Int), .ref q] ∧ MemAt (CM K) (CG K) L H M ∧ d < 2 ∧ SqT K H q (.str wd :: xs) ∧ ResP K L M d H Q wd xs
section
variable {P : Program} {w : World} {K : PySem.W.Frag} {mg : Str → Option Value} {base : Heap}
theorem ok_result (T : Top K mg) : FnC P w K mg base CX0 6 (He.ma K (He.ga K "Memory") "_result_of") (spResult K) := by
  have G_Memory__dma_read := ok_dma_read (P := P) (w := w) (base := base) T
  have G_Memory__dma_write := ok_dma_write (P := P) (w := w) (base := base) T
  have G_Memory__drop := ok_mdrop (P := P) (w := w) (base := base) T
  have G_Guard_command := ok_command (P := P) (w := w) (base := base) T
  refine fnc0 T.d_Memory__result_of sc_Memory__result_of (fun _ _ _ _ _ _ us hl => match us, hl with | [_, _, _], _ => rfl) (fun vs H Q E h => ?_) (fun cdv A outer s H vs Q E hr h => ?_)
  · obtain ⟨L, M, d, q, wd, xs, rfl, _⟩ := h
    rfl
  · obtain ⟨L, M, d, q, wd, xs, rfl, hM, hd, hq, h⟩ := h
    refine ⟨_, (pss_cons (ps_match (pv 2) (pc_cons sc_Memory__result_of.nd (pm_seq rfl (pms_cons pm_word (pms_cons (pm_name (i := 3) rfl (Or.inl rfl)) pms_nil)))
    (pss_one (ps_ret (pe_ix ix_list (pe_fld (pv 0) rfl) (pv 3) (fun _ _ => rfl))))
    (pc_cons sc_Memory__result_of.nd (pm_seq rfl (pms_cons pm_word (pms_cons (pm_name (i := 3) rfl (Or.inl rfl)) (pms_cons (pm_name (i := 4) rfl (Or.inl rfl)) pms_nil))))
    (pss_one (ps_asg (pv 4) (pg_sub (pe_fld (pv 0) rfl) (pv 3) set_list)))
    (pc_cons sc_Memory__result_of.nd (pm_seq rfl (pms_cons pm_word (pms_cons (pm_name (i := 5) rfl (Or.inl rfl)) (pms_cons (pm_name (i := 6) rfl (Or.inl rfl)) pms_nil))))
    (pss_one (ps_ret (pe_m G_Memory__dma_read hr (by decide) T.cl_Memory T.me_Memory__dma_read pass0 (pv 0) (pa_cons (pv 1) (pa_cons (pv 5) (pa_cons (pv 6) pa_nil))))))
    (pc_cons sc_Memory__result_of.nd (pm_seq rfl (pms_cons pm_word (pms_cons (pm_name (i := 5) rfl (Or.inl rfl)) (pms_cons (pm_name (i := 6) rfl (Or.inl rfl)) (pms_cons (pm_name (i := 4) rfl (Or.inl rfl)) pms_nil)))))
    (pss_one (ps_ret (pe_m G_Memory__dma_write hr (by decide) T.cl_Memory T.me_Memory__dma_write pass0 (pv 0) (pa_cons (pv 1) (pa_cons (pv 5) (pa_cons (pv 6) (pa_cons (pv 4) pa_nil)))))))
    (pc_cons sc_Memory__result_of.nd (pm_seq rfl (pms_cons pm_word (pms_cons (pm_name (i := 5) rfl (Or.inl rfl)) pms_nil)))
    (pss_one (ps_ret (pe_m G_Guard_command hr (by decide) T.cl_Guard T.me_Guard_command pass0 (pe_ix ix_list (pe_fld (pv 0) rfl) (pv 1) (fun _ _ => rfl)) (pa_cons (pv 5) pa_nil))))
    (pc_cons sc_Memory__result_of.nd (pm_seq rfl (pms_cons pm_word pms_nil))
    (pss_one (ps_ret (pe_m G_Memory__drop hr (by decide) T.cl_Memory T.me_Memory__drop pass0 (pv 0) (pa_cons (pv 1) pa_nil))))
    (pc_cons sc_Memory__result_of.nd (pm_seq rfl (pms_cons pm_word (pms_cons (pm_name (i := 7) rfl (Or.inl rfl)) (pms_cons pm_any (pms_cons pm_any pms_nil)))))
    (pss_one (ps_ret (pe_ix ix_list (pe_ix ix_list (pe_fld (pv 0) rfl) (pv 1) (fun _ _ => rfl)) (pv 7) (fun _ _ => rfl))))
    (pc_cons sc_Memory__result_of.nd (pm_seq rfl (pms_cons pm_word (pms_cons (pm_name (i := 7) rfl (Or.inl rfl)) (pms_cons (pm_name (i := 8) rfl (Or.inl rfl)) (pms_cons (pm_name (i := 9) rfl (Or.inl rfl)) (pms_cons (pm_name (i := 10) rfl (Or.inl rfl)) pms_nil))))))
    (pss_cons (ps_asg (pv 8) (pg_sub (pe_ix ix_list (pe_fld (pv 0) rfl) (pv 1) (fun _ _ => rfl)) (pv 7) set_list))
    (pss_one (ps_asg (pe_tup (StX.pa_star (pe_ix ix_list (pe_fld (pv 0) rfl) (pv 1) (fun _ _ => rfl)) (pa_cons (pe_tup (pa_cons (pv 9) (pa_cons (pv 10) pa_nil))) pa_nil))) (pg_sub (pe_fld (pv 0) rfl) (pv 1) set_list))))
    (pc_cons sc_Memory__result_of.nd (pm_seq rfl (pms_cons pm_word pms_nil))
    (pss_one (ps_ret (pe_ix ix_list (pe_fld (pv 0) rfl) (pv 1) (fun _ _ => rfl))))
    (pc_cons sc_Memory__result_of.nd (pm_seq rfl (pms_cons pm_word (pms_cons (pm_name (i := 11) rfl (Or.inl rfl)) pms_nil)))
    (pss_one (ps_asg (pv 11) (pg_sub (pe_fld (pv 0) rfl) (pv 1) set_list)))
    pc_nil)))))))))))
    (pss_one (ps_ret pe_non))), ?_⟩
    refine ⟨_, rfl, ?_⟩
    have hg : ([V.ref (L.gs 0).g, V.ref (L.gs 1).g] : List V)[d]? = some (V.ref (L.gs d).g) := by
      rcases lt2 hd with rfl | rfl <;> rfl
    have hb : ([V.ref (L.bl 0), V.ref (L.bl 1)] : List V)[d]? = some (V.ref (L.bl d)) := by
      rcases lt2 hd with rfl | rfl <;> rfl
    cases h with
    | read h k =>
      refine hit_word hq rfl (mn_name mn_nil) ?_
      exact ⟨_, rfl, L.m, CM K, L.d, _, _, rfl, hM.om, T.cl_Memory, T.na_Memory__cells, lm_C, _, rfl, L.aC, M.cells, _, _, rfl, rfl, SqL.of hM.oc, atI_n h, k⟩
    | write h k =>
      refine miss_word hq (by decide) ?_
      refine hit_word hq rfl (mn_name (mn_name mn_nil)) ?_
      exact ⟨_, rfl, _, rfl, L.m, CM K, L.d, _, _, rfl, hM.om, T.cl_Memory, T.na_Memory__cells, lm_C, _, rfl, L.aC, M.cells, _, _, rfl, rfl, hM.oc, ixN_in (by omega) (by omega), k⟩
    | dmaRead k =>
      refine miss_word hq (by decide) ?_
      refine miss_word hq (by decide) ?_
      refine hit_word hq rfl (mn_name (mn_name mn_nil)) ?_
      exact ⟨_, rfl, L.m, L.d, _, rfl, hM.om, zn (by decide +kernel), _, rfl, _, rfl, _, rfl, k⟩
    | dmaWrite k =>
      refine miss_word hq (by decide) ?_
      refine miss_word hq (by decide) ?_
      refine miss_word hq (by decide) ?_
      refine hit_word hq rfl (mn_name (mn_name (mn_name mn_nil))) ?_
      exact ⟨_, rfl, L.m, L.d, _, rfl, hM.om, zn (by decide +kernel), _, rfl, _, rfl, _, rfl, _, rfl, k⟩
    | command k =>
      refine miss_word hq (by decide) ?_
      refine miss_word hq (by decide) ?_
      refine miss_word hq (by decide) ?_
      refine miss_word hq (by decide) ?_
      refine hit_word hq rfl (mn_name mn_nil) ?_
      exact ⟨_, rfl, L.m, CM K, L.d, _, _, rfl, hM.om, T.cl_Memory, T.na_Memory_guards, lm_g, _, rfl, L.aG, _, _, _, rfl, rfl, SqL.of hM.og, atI_n hg, (L.gs d).g, (L.gs d).d, _, rfl, (hM.gu d hd).og, zn (by decide +kernel), _, rfl, k⟩
    | drop k =>
      refine miss_word hq (by decide) ?_
      refine miss_word hq (by decide) ?_
      refine miss_word hq (by decide) ?_
      refine miss_word hq (by decide) ?_
      refine miss_word hq (by decide) ?_
      refine hit_word hq rfl mn_nil ?_
      exact ⟨_, rfl, L.m, L.d, _, rfl, hM.om, zn (by decide +kernel), _, rfl, k⟩
    | fetch h k =>
      refine miss_word hq (by decide) ?_
      refine miss_word hq (by decide) ?_
      refine miss_word hq (by decide) ?_
      refine miss_word hq (by decide) ?_
      refine miss_word hq (by decide) ?_
      refine miss_word hq (by decide) ?_
      refine hit_word hq rfl (mn_name (mn_any (mn_any mn_nil))) ?_
      exact ⟨_, rfl, L.m, CM K, L.d, _, _, rfl, hM.om, T.cl_Memory, T.na_Memory__blocks, lm_B, _, rfl, L.aB, _, _, _, rfl, rfl, SqL.of hM.ob, atI_n hb, _, rfl, L.bl d, M.bl d, _, _, rfl, rfl, SqL.of (hM.obl d hd), atI_n h, k⟩
    | @commit b v y z j js h hj hs hl k =>
      refine miss_word hq (by decide) ?_
      refine miss_word hq (by decide) ?_
      refine miss_word hq (by decide) ?_
      refine miss_word hq (by decide) ?_
      refine miss_word hq (by decide) ?_
      refine miss_word hq (by decide) ?_
      refine miss_word hq (by decide) ?_
      refine hit_word hq rfl (mn_name (mn_name (mn_name (mn_name mn_nil)))) ?_
      have hM1 := hM.wbl (xs := (M.bl d).set b v) hd
      refine ⟨_, rfl, _, rfl, L.m, CM K, L.d, _, _, rfl, hM.om, T.cl_Memory, T.na_Memory__blocks, lm_B, _, rfl, L.aB, _, _, _, rfl, rfl, SqL.of hM.ob, atI_n hb, _, rfl, L.bl d, M.bl d, _, _, rfl, rfl, hM.obl d hd, ixN_in (by omega) (by omega), ?_⟩
      refine ⟨_, rfl, L.m, CM K, L.d, _, _, rfl, hM1.om, T.cl_Memory, T.na_Memory__journals, lm_J, _, rfl, L.aJ, M.jo, _, _, rfl, rfl, SqL.of hM1.oj, atI_n hj, j, js, rfl, .inl (TSame.lst (hM.obl d hd) _ _ hs), _, rfl, _, rfl, (by rw [sizeLine_eq]; show 2 ≤ _; omega), fun t ht => ?_⟩
      have hM2 := hM1.new (o := .tup [y, z]) ht
      refine ⟨(by rw [sizeLine_eq, List.length_append]; show js.length + 1 ≤ _; omega), fun u hu => ?_⟩
      have hM3 := hM2.new (o := .tup (js ++ [.ref t])) hu
      have hjl : d < M.jo.length := (List.getElem?_eq_some_iff.mp hj).1
      refine ⟨_, rfl, L.m, CM K, L.d, _, _, rfl, hM3.om, T.cl_Memory, T.na_Memory__journals, lm_J, _, rfl, L.aJ, M.jo, _, _, rfl, rfl, hM3.oj, ixN_in (by omega) (by omega), ?_⟩
      exact k t u (free_upd ht).2 (free_upd (free_upd hu).2).2 (free_upd hu).1
    | journal h k =>
      refine miss_word hq (by decide) ?_
      refine miss_word hq (by decide) ?_
      refine miss_word hq (by decide) ?_
      refine miss_word hq (by decide) ?_
      refine miss_word hq (by decide) ?_
      refine miss_word hq (by decide) ?_
      refine miss_word hq (by decide) ?_
      refine miss_word hq (by decide) ?_
      refine hit_word hq rfl mn_nil ?_
      exact ⟨_, rfl, L.m, CM K, L.d, _, _, rfl, hM.om, T.cl_Memory, T.na_Memory__journals, lm_J, _, rfl, L.aJ, M.jo, _, _, rfl, rfl, SqL.of hM.oj, atI_n h, k⟩
    | tell h k =>
      refine miss_word hq (by decide) ?_
      refine miss_word hq (by decide) ?_
      refine miss_word hq (by decide) ?_
      refine miss_word hq (by decide) ?_
      refine miss_word hq (by decide) ?_
      refine miss_word hq (by decide) ?_
      refine miss_word hq (by decide) ?_
      refine miss_word hq (by decide) ?_
      refine miss_word hq (by decide) ?_
      refine hit_word hq rfl (mn_name mn_nil) ?_
      exact ⟨_, rfl, _, rfl, L.m, CM K, L.d, _, _, rfl, hM.om, T.cl_Memory, T.na_Memory__journals, lm_J, _, rfl, L.aJ, M.jo, _, _, rfl, rfl, hM.oj, ixN_in (by omega) (by omega), k⟩
end
end Rb
namespace Rb
open PySem PySem.Spec PyProof.Rows L2
theorem mFld_put {n m : Int} {aG aC aB aJ aL : Addr} : putF ("count" : Str) (.int m) (mFld n aG aC aB aJ aL) = mFld m aG aC aB aJ aL := zp (i := 0) (by decide +kernel) rfl
theorem MemAt.wcount {Cm Cg : Addr} {L : ML} {H : Hp} {M : MS} {n : Int} (h : MemAt Cm Cg L H M) : MemAt Cm Cg L (upd H L.m (.ins Cm L.d (mFld n L.aG L.aC L.aB L.aJ L.aL))) { M with count := n } := by
  obtain ⟨t, _⟩ := ML.tail h.nd
  have nn := h.nd
  have a0 := (ML.apart (d := 0) (by omega) h.nd).1.m
  have a1 := (ML.apart (d := 1) (by omega) h.nd).1.m
  unfold ML.all at nn
  rw [List.nodup_append, List.nodup_append, List.nodup_append] at nn
  obtain ⟨⟨⟨na, _, _⟩, _, _⟩, _, _⟩ := nn
  simp only [List.nodup_cons, List.mem_cons, List.not_mem_nil, or_false, not_or] at na
  obtain ⟨⟨m1, m2⟩, _⟩ := na
  refine ⟨upd_same, (upd_ne (Ne.symm m1)).trans h.od, (upd_ne (Ne.symm m2)).trans h.og, (upd_ne (Ne.symm (t L.aC (by simp)).m)).trans h.oc, (upd_ne (Ne.symm (t L.aB (by simp)).m)).trans h.ob, fun i hi => ?_, (upd_ne (Ne.symm (t L.aJ (by simp)).m)).trans h.oj, (upd_ne (Ne.symm (t L.aL (by simp)).m)).trans h.ol, fun i hi => (h.gu i hi).keep fun b hb => upd_ne fun z => ?_, h.nd⟩
  · rcases lt2 hi with rfl | rfl
    · exact (upd_ne (Ne.symm (t (L.bl 0) (by simp)).m)).trans (h.obl 0 hi)
    · exact (upd_ne (Ne.symm (t (L.bl 1) (by simp)).m)).trans (h.obl 1 hi)
  · rcases lt2 hi with rfl | rfl
    · exact a0 (z ▸ hb)
    · exact a1 (z ▸ hb)
/-- behind the result: the access is counted and logged, and the pair of the result and the number is new -/
def AccP (Cm Cg : Addr) (L : ML) (a q : Addr) (Q : VK) (r : V) (H2 : Hp) : Prop := ∃ M2, MemAt Cm Cg L H2 M2 ∧ M2.log.length < 4000 ∧
  ∀ t u H3, MemAt Cm Cg L H3 { M2 with count := M2.count + 1, log := M2.log ++ [.ref t] } → H2 t = none → H2 u = none → u ≠ t → H3 t = some (.tup [.int (M2.count + 1), .ref a, .ref q, r]) → H3 u = some (.tup [r, .int (M2.count + 1)]) →
    (∀ b, b ∉ L.all → b ≠ t → b ≠ u → H3 b = H2 b) → Q (.ref u) H3
def spAccess (K : PySem.W.Frag) : Sp := fun vs H Q E => ∃ (L : ML) (M : MS) (a : Addr) (role : Str) (d : Nat) (q : Addr) (wd : Str) (rs ks : List Str) (xs : List V) (ds : List PyData), vs = [.ref L.m, .ref a, .ref q] ∧ MemAt (CM K) (CG K) L H M ∧
  SqT K H a [.str role, .int (d : Int)] ∧ SqT K H q (.str wd :: xs) ∧ DpAll K H xs ds ∧ noLs ds = true ∧ szs ds ≤ 4000 ∧ (wd, rs, ks) ∈ formsL ∧ (wd = "write" → isTw (d : Int) (cellOf ds) = true → wordForm (valOf ds)) ∧ d < 2 ∧
  (allowB role (d : Int) wd rs ks ds = false → ∀ H', Same H H' → E (NV K) none H') ∧
  (allowB role (d : Int) wd rs ks ds = true → ∀ H1 Q', Same H H1 → MemAt (CM K) (CG K) L H1 M → (∀ r H2, AccP (CM K) (CG K) L a q Q r H2 → Q' r H2) → ResP K L M d H1 Q' wd xs)
section
variable {P : Program} {w : World} {K : PySem.W.Frag} {mg : Str → Option Value} {base : Heap}
theorem ok_access (T : Top K mg) (TB : ∃ es n, KDict K w (He.ga K "FORMS") es n) : FnC P w K mg base (L2.CX P w) 7 (He.ma K (He.ga K "Memory") "access") (spAccess K) := by
  have G_is_allowed := ok_is_allowed (P := P) (w := w) (base := base) T TB
  have G_NotValid___init__ := ok_NotValid_init (P := P) (w := w) (base := base) T
  have G_Memory__result_of := ok_result (P := P) (w := w) (base := base) T
  refine fnc T.d_Memory_access sc_Memory_access (fun _ _ _ _ _ _ us hl => match us, hl with | [_, _, _], _ => rfl) (fun vs H Q E h => ?_) (fun cdv A outer s H vs Q E hr h => ?_)
  · obtain ⟨L, M, a, role, d, q, wd, rs, ks, xs, ds, rfl, _⟩ := h
    rfl
  · obtain ⟨L, M, a, role, d, q, wd, rs, ks, xs, ds, rfl, hM, ha, hq, hD, hn, hs, hf, hw, hd, ke, ky⟩ := h
    refine ⟨_, (pss_cons (ps_if (pt_not (pt_val (pe_f G_is_allowed hr (by decide) (by rfl) T.g_is_allowed pass0 (pa_cons (pv 1) (pa_cons (pv 2) pa_nil))))) (pss_one (ps_raise rfl (takes_of rfl rfl rfl rfl) (pmk_bare T.ex_NotValid T.ini_NotValid T.ity_NotValid G_NotValid___init__ hr (by decide) pass0 (by rfl) T.g_NotValid))) pss_nil)
    (pss_cons (ps_set (i := 3) sc_Memory_access.nd rfl (Or.inl rfl) (pe_m G_Memory__result_of hr (by decide) T.cl_Memory T.me_Memory__result_of pass0 (pv 0) (pa_cons (pe_ix ix_tup (pv 1) pe_int (fun _ _ => rfl)) (pa_cons (pv 2) pa_nil))))
    (pss_cons (ps_fldaug (pv 0) pe_int in_add)
    (pss_cons (ps_expr (pe_bm PySem.F.plainAttrs_list PySem.F.slot_list_append PySem.F.type_list_append mt_append (pe_fld (pv 0) rfl) (pa_cons (pe_tup (pa_cons (pe_fld (pv 0) rfl) (pa_cons (pv 1) (pa_cons (pv 2) (pa_cons (pv 3) pa_nil))))) pa_nil)))
    (pss_one (ps_ret (pe_tup (pa_cons (pv 3) (pa_cons (pe_fld (pv 0) rfl) pa_nil))))))))), ?_⟩
    refine ⟨_, rfl, _, rfl, a, role, (d : Int), q, wd, rs, ks, xs, ds, rfl, ha, hq, hD, hn, hs, hf, hw, fun H1 s1 => ⟨_, rfl, ?_⟩⟩
    cases e : allowB role (d : Int) wd rs ks ds with
    | false => exact ⟨fun x hx => ⟨x, _, rfl, T.ex_NotValid, upd_same, rfl, rfl⟩, ke e H1 s1⟩
    | true =>
      have hM1 := hM.same s1
      have ha1 := TSame.same (K := K) s1 _ _ ha
      have hq1 := TSame.same (K := K) s1 _ _ hq
      refine ⟨_, rfl, L.m, L.d, _, rfl, hM1.om, zn (by decide +kernel), _, rfl, a, _, 1, _, rfl, rfl, ha1, atI_n (j := 1) rfl, _, rfl, L, M, d, q, wd, xs, rfl, hM1, hd, hq1, ?_⟩
      refine ky e H1 _ s1 hM1 fun r H2 hp => ?_
      obtain ⟨M2, hM2, hl, k⟩ := hp
      have hM3 := hM2.wcount (n := M2.count + 1)
      refine ⟨_, rfl, L.m, CM K, L.d, _, _, rfl, hM2.om, T.cl_Memory, T.na_Memory_count, lm_c, _, _, rfl, rfl, _, _, hM2.om, (by show 6 < 1000; omega), ?_⟩
      rw [mFld_put]
      refine ⟨_, rfl, L.m, CM K, L.d, _, _, rfl, hM3.om, T.cl_Memory, T.na_Memory__log, lm_L, .inl ⟨rfl, _, SqL.of hM3.ol⟩, _, rfl, L.m, CM K, L.d, _, _, rfl, hM3.om, T.cl_Memory, T.na_Memory_count, lm_c, _, rfl, _, rfl, _, rfl, (by rw [sizeLine_eq]; show 4 ≤ _; omega), fun t ht => ?_⟩
      have hM4 := hM3.new (o := .tup [.int (M2.count + 1), .ref a, .ref q, r]) ht
      have hM5 := hM4.wlog (xs := M2.log ++ [.ref t])
      refine ⟨L.aL, _, _, rfl, rfl, hM4.ol, (by rw [sizeLine_eq]; show M2.log.length < _; omega), ?_⟩
      refine ⟨_, rfl, _, rfl, L.m, CM K, L.d, _, _, rfl, hM5.om, T.cl_Memory, T.na_Memory_count, lm_c, (by rw [sizeLine_eq]; show 2 ≤ _; omega), fun u hu => ?_⟩
      have hM6 := hM5.new (o := .tup [r, .int (M2.count + 1)]) hu
      obtain ⟨u1, u2⟩ := free_upd hu
      obtain ⟨u3, u4⟩ := free_upd u2
      obtain ⟨u5, u6⟩ := free_upd u4
      obtain ⟨t1, t2⟩ := free_upd ht
      have tL : t ≠ L.aL := fun z => by
        rw [z] at t2
        rw [hM2.ol] at t2
        cases t2
      refine k t u _ hM6 t2 u6 u3 ?_ upd_same fun b hb h1 h2 => ?_
      · rw [upd_ne (Ne.symm u3), upd_ne tL, upd_same]
      · rw [upd_ne h2, upd_ne (fun z => hb (by rw [z]; simp [ML.all])), upd_ne h1, upd_ne (fun z => hb (by rw [z]; simp [ML.all]))]
end
end Rb
namespace Rb
open PySem PySem.Spec PyProof.Rows L2
/-! ### a memory by its data -/
structure AM where
  cells : List PyData
  ent : Nat → Int → Option PyData
  que : Nat → List (Int × Int)
  tix : Nat → Int
  jo : Nat → List PyData
  bl : Nat → List PyData
  log : List PyData
def wordF (d : PyData) : Prop := ∃ (f : Nat) (r : Str), d = .tuple [.int (f : Int), .str r] ∧ f < 6 ∧ (r = "r" ∨ r = "w")
def cmdD (p : Int × Int) : PyData := .tuple [.int p.1, .int p.2]
def updN {α : Type} (g : Nat → α) (d : Nat) (x : α) : Nat → α := fun i => if i = d then x else g i
theorem updN_same {α : Type} {g : Nat → α} {d : Nat} {x : α} : updN g d x d = x := if_pos rfl
theorem updN_ne {α : Type} {g : Nat → α} {d i : Nat} {x : α} (h : i ≠ d) : updN g d x i = g i := if_neg h
def updI (g : Int → Option PyData) (p : Int) (x : Option PyData) : Int → Option PyData := fun i => if i = p then x else g i
/-- entries by data -/
def EntR (K : PySem.W.Frag) (H : Hp) (E : List (Key × V)) (g : Int → Option PyData) : Prop := ∀ p : Int, (valV E (Sum.inl p) = none ∧ g p = none) ∨ ∃ v dd, valV E (Sum.inl p) = some v ∧ g p = some dd ∧ Dp K H v dd
/-- the keys of entries are pages -/
def KeyI (E : List (Key × V)) : Prop := ∃ ks : List Int, E.map (·.1) = ks.map Sum.inl ∧ ks.Nodup ∧ ∀ k ∈ ks, 0 ≤ k ∧ k < 6
theorem KeyI.put {E : List (Key × V)} {p : Int} {v : V} (h : KeyI E) (h0 : 0 ≤ p) (h6 : p < 6) : KeyI (putK E (Sum.inl p) v) := by
  obtain ⟨ks, e, nd, kb⟩ := h
  unfold putK
  split
  · refine ⟨ks, ?_, nd, kb⟩
    rw [← e, List.map_map]
    refine List.map_congr_left fun kv _ => ?_
    show (if kv.1 = Sum.inl p then (kv.1, v) else kv).1 = kv.1
    split <;> rfl
  · rename_i c
    have np : p ∉ ks := fun z => c (by
      rw [List.any_eq_true]
      have hm : (Sum.inl p : Key) ∈ E.map (·.1) := by
        rw [e]
        exact List.mem_map.mpr ⟨p, z, rfl⟩
      obtain ⟨kv, h1, h2⟩ := List.mem_map.mp hm
      exact ⟨kv, h1, decide_eq_true h2⟩)
    refine ⟨ks ++ [p], ?_, ?_, fun k hk => ?_⟩
    · rw [List.map_append, List.map_append, e]
      rfl
    · rw [List.nodup_append]
      refine ⟨nd, by simp, fun a ha b hb z => ?_⟩
      simp only [List.mem_cons, List.not_mem_nil, or_false] at hb
      rw [z, hb] at ha
      exact np ha
    · rcases List.mem_append.mp hk with z | z
      · exact kb k z
      · simp only [List.mem_cons, List.not_mem_nil, or_false] at z
        rw [z]
        exact ⟨h0, h6⟩
theorem KeyI.drop {E : List (Key × V)} {p : Int} (h : KeyI E) : KeyI (dropK E (Sum.inl p)) := by
  obtain ⟨ks, e, nd, kb⟩ := h
  refine ⟨ks.filter fun k => decide ((Sum.inl k : Key) ≠ Sum.inl p), ?_, nd.filter _, fun k hk => kb k (List.mem_filter.mp hk).1⟩
  unfold dropK
  have h1 : (E.filter fun kv => decide (kv.1 ≠ Sum.inl p)).map (·.1) = (E.map (·.1)).filter fun k => decide (k ≠ (Sum.inl p : Key)) := by
    rw [List.filter_map]
    rfl
  rw [h1, e, List.filter_map]
  rfl
structure Abs (K : PySem.W.Frag) (H : Hp) (L : ML) (M : MS) (A : AM) (N : Nat) : Prop where
  mem : MemAt (CM K) (CG K) L H M
  cs : DpAll K H M.cells A.cells
  cn : noLs A.cells = true
  c7 : A.cells.length = 70
  en : ∀ d, d < 2 → EntR K H (M.gs d).ents (A.ent d)
  ew : ∀ d, d < 2 → ∀ p dd, A.ent d p = some dd → wordF dd
  tw : ∀ d, d < 2 → ∀ p, p < 6 → ∀ dd, A.cells[56 + d * 6 + p]? = some dd → dd = .none ∨ wordF dd
  qu : ∀ d, d < 2 → DpAll K H (M.gs d).que ((A.que d).map cmdD)
  ti : ∀ d, d < 2 → (M.gs d).tix = A.tix d
  jo : ∃ j0 j1, M.jo = [.ref j0, .ref j1] ∧ (∃ xs, SqT K H j0 xs ∧ DpAll K H xs (A.jo 0)) ∧ (∃ xs, SqT K H j1 xs ∧ DpAll K H xs (A.jo 1))
  jn : ∀ d, d < 2 → noLs (A.jo d) = true
  bs : ∀ d, d < 2 → DpAll K H (M.bl d) (A.bl d)
  bn : ∀ d, d < 2 → noLs (A.bl d) = true ∧ (A.bl d).length = 8
  lg : DpAll K H M.log A.log
  ln : noLs A.log = true
  ct : M.count = (A.log.length : Int)
  /-- what has a length -/
  s0 : A.log.length ≤ N
  s1 : ∀ d, d < 2 → (M.gs d).ents.length ≤ N
  s2 : ∀ d, d < 2 → (A.que d).length ≤ N
  s3 : ∀ d, d < 2 → (A.jo d).length ≤ N + 100
  ek : ∀ d, d < 2 → KeyI (M.gs d).ents
theorem noLs_map {α : Type} {f : α → PyData} (h : ∀ x, noL (f x) = true) : ∀ l : List α, noLs (l.map f) = true
  | [] => rfl
  | x :: xs => by
    show (noL (f x) && noLs (xs.map f)) = true
    rw [h, noLs_map h xs]
    rfl
theorem noLs_cmd (l : List (Int × Int)) : noLs (l.map cmdD) = true := noLs_map (fun _ => rfl) l
theorem wordF.nl {d : PyData} (h : wordF d) : noL d = true := by
  obtain ⟨f, r, rfl, _⟩ := h
  rfl
theorem EntR.ts {K : PySem.W.Frag} {H H' : Hp} {E : List (Key × V)} {g : Int → Option PyData} (h : EntR K H E g) (hw : ∀ p dd, g p = some dd → wordF dd) (s : TSame K H H') : EntR K H' E g := fun p => by
  rcases h p with q | ⟨v, dd, e1, e2, e3⟩
  · exact .inl q
  · exact .inr ⟨v, dd, e1, e2, Rb.Dp.ts s _ _ (hw p dd e2).nl e3⟩
/-- the same memory behind a heap in which its objects and the tuples stay -/
theorem Abs.move {K : PySem.W.Frag} {H H' : Hp} {L : ML} {M : MS} {A : AM} {N : Nat} (h : Abs K H L M A N) (m : MemAt (CM K) (CG K) L H' M) (s : TSame K H H') : Abs K H' L M A N := by
  refine { h with mem := m, cs := Rb.DpAll.ts s _ _ h.cn h.cs, en := fun d hd => (h.en d hd).ts (h.ew d hd) s, qu := fun d hd => Rb.DpAll.ts s _ _ (noLs_cmd _) (h.qu d hd), jo := ?_, bs := fun d hd => Rb.DpAll.ts s _ _ (h.bn d hd).1 (h.bs d hd), lg := Rb.DpAll.ts s _ _ h.ln h.lg }
  obtain ⟨j0, j1, e, ⟨xs, a, b⟩, ⟨ys, c, d⟩⟩ := h.jo
  exact ⟨j0, j1, e, ⟨xs, s _ _ a, Rb.DpAll.ts s _ _ (h.jn 0 (by decide)) b⟩, ⟨ys, s _ _ c, Rb.DpAll.ts s _ _ (h.jn 1 (by decide)) d⟩⟩
theorem Abs.same {K : PySem.W.Frag} {H H' : Hp} {L : ML} {M : MS} {A : AM} {N : Nat} (h : Abs K H L M A N) (s : Same H H') : Abs K H' L M A N := h.move (h.mem.same s) (TSame.same s)
/-- no object of a memory is a tuple -/
theorem MemAt.kind {Cm Cg : Addr} {L : ML} {H : Hp} {M : MS} (h : MemAt Cm Cg L H M) : ∀ b ∈ L.all, ∃ o, H b = some o ∧ (∀ xs, o ≠ .tup xs) ∧ ∀ ob xs, o ≠ .frz ob (.tup xs) := by
  intro b hb
  have gg : ∀ d, d < 2 → b ∈ (L.gs d).all → ∃ o, H b = some o ∧ (∀ xs, o ≠ .tup xs) ∧ ∀ ob xs, o ≠ .frz ob (.tup xs) := fun d hd hm => by
    have G := h.gu d hd
    simp only [GL.all, List.mem_cons, List.not_mem_nil, or_false] at hm
    rcases hm with rfl | rfl | rfl | rfl
    · exact ⟨_, G.od, fun _ z => (nomatch z), fun _ _ z => (nomatch z)⟩
    · exact ⟨_, G.og, fun _ z => (nomatch z), fun _ _ z => (nomatch z)⟩
    · exact ⟨_, G.oe, fun _ z => (nomatch z), fun _ _ z => (nomatch z)⟩
    · exact ⟨_, G.oq, fun _ z => (nomatch z), fun _ _ z => (nomatch z)⟩
  simp only [ML.all, List.mem_append, List.mem_cons, List.not_mem_nil, or_false] at hb
  rcases hb with (((rfl | rfl | rfl) | hb) | hb) | rfl | rfl | rfl | rfl | rfl | rfl
  · exact ⟨_, h.om, fun _ z => (nomatch z), fun _ _ z => (nomatch z)⟩
  · exact ⟨_, h.od, fun _ z => (nomatch z), fun _ _ z => (nomatch z)⟩
  · exact ⟨_, h.og, fun _ z => (nomatch z), fun _ _ z => (nomatch z)⟩
  · exact gg 0 (by decide) hb
  · exact gg 1 (by decide) hb
  · exact ⟨_, h.oc, fun _ z => (nomatch z), fun _ _ z => (nomatch z)⟩
  · exact ⟨_, h.ob, fun _ z => (nomatch z), fun _ _ z => (nomatch z)⟩
  · exact ⟨_, h.obl 0 (by decide), fun _ z => (nomatch z), fun _ _ z => (nomatch z)⟩
  · exact ⟨_, h.obl 1 (by decide), fun _ z => (nomatch z), fun _ _ z => (nomatch z)⟩
  · exact ⟨_, h.oj, fun _ z => (nomatch z), fun _ _ z => (nomatch z)⟩
  · exact ⟨_, h.ol, fun _ z => (nomatch z), fun _ _ z => (nomatch z)⟩
theorem MemAt.noT {Cm Cg : Addr} {L : ML} {H : Hp} {M : MS} (h : MemAt Cm Cg L H M) : ∀ b ∈ L.all, (∀ xs, H b ≠ some (.tup xs)) ∧ ∀ ob xs, H b ≠ some (.frz ob (.tup xs)) := by
  intro b hb
  obtain ⟨o, e, h1, h2⟩ := h.kind b hb
  exact ⟨fun xs z => by rw [e] at z; exact h1 xs (Option.some.inj z), fun ob xs z => by rw [e] at z; exact h2 ob xs (Option.some.inj z)⟩
theorem MemAt.nin {Cm Cg : Addr} {L : ML} {H : Hp} {M : MS} {p : Addr} (h : MemAt Cm Cg L H M) (hp : H p = none) : p ∉ L.all := fun z => by
  obtain ⟨o, e, _⟩ := h.kind p z
  rw [hp] at e
  cases e
/-- what lies outside of the memory stays -/
def KL (L : ML) (H H' : Hp) : Prop := ∀ b o, H b = some o → b ∉ L.all → H' b = some o
theorem KL.refl {L : ML} {H : Hp} : KL L H H := fun _ _ h _ => h
theorem KL.trans {L : ML} {H H1 H2 : Hp} (a : KL L H H1) (b : KL L H1 H2) : KL L H H2 := fun c o h n => b c o (a c o h n) n
theorem KL.of {L : ML} {H H' : Hp} (s : Same H H') : KL L H H' := fun b o h _ => s b o h
theorem KL.upd {L : ML} {H H' : Hp} {p : Addr} {o : HO} (a : KL L H H') (hp : p ∈ L.all) : KL L H (upd H' p o) := fun b u h n => by
  have nb : b ≠ p := fun z => n (by rw [z]; exact hp)
  rw [upd_ne nb]
  exact a b u h n
theorem KL.new {L : ML} {H H' : Hp} {p : Addr} {o : HO} (a : KL L H H') (hp : H' p = none) : KL L H (L2.upd H' p o) := fun b u h n => by
  have q := a b u h n
  rw [upd_ne (ne_of_none q hp)]
  exact q
theorem KL.ts {Cm Cg : Addr} {K : PySem.W.Frag} {L : ML} {H H' : Hp} {M : MS} (k : KL L H H') (m : MemAt Cm Cg L H M) : TSame K H H' := fun a xs q => by
  rcases q with (q | ⟨ob, q⟩) | q
  · exact .inl (.inl (k _ _ q fun z => (m.noT a z).1 xs q))
  · exact .inl (.inr ⟨ob, k _ _ q fun z => (m.noT a z).2 ob xs q⟩)
  · exact .inr q
/-- a part of the cells -/
def useW (A : AM) (d p : Nat) : PyData := (A.ent d (p : Int)).getD (A.cells[56 + d * 6 + p]?.getD .none)
def isNoneD : PyData → Bool
  | .none => true
  | _ => false
def useA (A : AM) (d p : Nat) : AM := if ((A.ent d (p : Int)).isNone && !isNoneD (useW A d p)) = true then { A with ent := updN A.ent d (updI (A.ent d) (p : Int) (some (useW A d p))) } else A
/-- what an access gives, and what it leaves (the log apart) -/
inductive StepA (A : AM) (d : Nat) : Str → List PyData → PyData → AM → Prop
  | read {c : Nat} {x : PyData} (h : A.cells[c]? = some x) : StepA A d "read" [.int (c : Int)] x A
  | write {c : Nat} {v : PyData} (h : c < 70) (nl : noL v = true) (hw : ∀ d', d' < 2 → ∀ p, p < 6 → c = 56 + d' * 6 + p → v = .none ∨ wordF v) : StepA A d "write" [.int (c : Int), v] .none { A with cells := A.cells.set c v }
  | rNo {p i : Nat} (hp : p < 6) (h : useW A d p = .none) : StepA A d "dma read" [.int (p : Int), .int (i : Int)] .none A
  | rOff {p i f : Nat} {r : Str} (hp : p < 6) (h : useW A d p = .tuple [.int (f : Int), .str r]) (hr : r ≠ "r") : StepA A d "dma read" [.int (p : Int), .int (i : Int)] .none (useA A d p)
  | rYes {p i f : Nat} {x : PyData} (hp : p < 6) (h : useW A d p = .tuple [.int (f : Int), .str "r"]) (hx : A.cells[(d * 6 + f) * 4 + i]? = some x) : StepA A d "dma read" [.int (p : Int), .int (i : Int)] (.tuple [x]) (useA A d p)
  | wNo {p i : Nat} {v : PyData} (hp : p < 6) (h : useW A d p = .none) : StepA A d "dma write" [.int (p : Int), .int (i : Int), v] (.bool false) A
  | wOff {p i f : Nat} {r : Str} {v : PyData} (hp : p < 6) (h : useW A d p = .tuple [.int (f : Int), .str r]) (hr : r ≠ "w") : StepA A d "dma write" [.int (p : Int), .int (i : Int), v] (.bool false) (useA A d p)
  | wYes {p i f : Nat} {v : PyData} (hp : p < 6) (h : useW A d p = .tuple [.int (f : Int), .str "w"]) (hi : i < 4) (nl : noL v = true) : StepA A d "dma write" [.int (p : Int), .int (i : Int), v] (.bool true) { useA A d p with cells := A.cells.set ((d * 6 + f) * 4 + i) v }
  | command {p : Int} : StepA A d "command" [.int p] (.int (A.tix d + 1)) { A with tix := updN A.tix d (A.tix d + 1), que := updN A.que d (A.que d ++ [(p, A.tix d + 1)]) }
  | dropNo (h : A.que d = []) : StepA A d "drop" [] (.bool false) A
  | drop {p n : Int} {r : List (Int × Int)} (h : A.que d = (p, n) :: r) : StepA A d "drop" [] (.bool true) { A with que := updN A.que d r, ent := updN A.ent d (updI (A.ent d) p none), cells := A.cells.set (68 + d) (.int n) }
  | fetch {b : Nat} {x : PyData} {y z : Int} (h : (A.bl d)[b]? = some x) : StepA A d "fetch" [.int (b : Int), .int y, .int z] x A
  | commit {b : Nat} {v : PyData} {y z : Int} (hb : b < 8) (nl : noL v = true) : StepA A d "commit" [.int (b : Int), v, .int y, .int z] .none { A with bl := updN A.bl d ((A.bl d).set b v), jo := updN A.jo d (A.jo d ++ [.tuple [.int y, .int z]]) }
  | journal : StepA A d "journal" [] (.tuple (A.jo d)) A
  | tell {ds : List PyData} (nl : noLs ds = true) (hl : ds.length ≤ 100) : StepA A d "tell" [.tuple ds] .none { A with jo := updN A.jo d ds }
/-! ### an access, by data -/
theorem dpAll_set' {K : PySem.W.Frag} {H : Hp} : ∀ {vs : List V} {ds : List PyData} {i : Nat} {v : V} {d : PyData}, DpAll K H vs ds → Dp K H v d → DpAll K H (vs.set i v) (ds.set i d)
  | _, _, _, _, _, .nil, _ => .nil
  | _, _, 0, _, _, .cons _ t, h => .cons h t
  | _, _, i + 1, _, _, .cons a t, h => .cons a (dpAll_set' t h)
theorem noLs_set' : ∀ {ds : List PyData} {i : Nat} {d : PyData}, noLs ds = true → noL d = true → noLs (ds.set i d) = true
  | [], _, _, _, _ => rfl
  | x :: xs, 0, d, h, hd => by
    have := (and2 (show (noL x && noLs xs) = true from h)).2
    show (noL d && noLs xs) = true
    rw [hd, this]
    rfl
  | x :: xs, i + 1, d, h, hd => by
    obtain ⟨a, b⟩ := and2 (show (noL x && noLs xs) = true from h)
    show (noL x && noLs (xs.set i d)) = true
    rw [a, noLs_set' b hd]
    rfl
theorem dpAll_get' {K : PySem.W.Frag} {H : Hp} : ∀ {vs : List V} {ds : List PyData} {i : Nat} {d : PyData}, DpAll K H vs ds → ds[i]? = some d → ∃ v, vs[i]? = some v ∧ Dp K H v d
  | _, _, _, _, .nil, e => by simp at e
  | _, _, 0, _, .cons h _, e => by
    simp at e
    subst e
    exact ⟨_, rfl, h⟩
  | _, _, i + 1, d, .cons _ t, e => by
    obtain ⟨v, a, b⟩ := dpAll_get' (i := i) (d := d) t (by simpa using e)
    exact ⟨v, by simpa using a, b⟩
/-- the cells of a memory are written -/
theorem Abs.cells {K : PySem.W.Frag} {H : Hp} {L : ML} {M : MS} {A : AM} {c : Nat} {v : V} {dv : PyData} {N : Nat} (h : Abs K H L M A N) (hv : Dp K H v dv) (nl : noL dv = true)
    (hw : ∀ d', d' < 2 → ∀ p, p < 6 → c = 56 + d' * 6 + p → dv = .none ∨ wordF dv) :
    Abs K (upd H L.aC (.lst (M.cells.set c v))) L { M with cells := M.cells.set c v } { A with cells := A.cells.set c dv } N := by
  have ts : TSame K H (upd H L.aC (.lst (M.cells.set c v))) := TSame.lst h.mem.oc
  have cs : DpAll K (upd H L.aC (.lst (M.cells.set c v))) (M.cells.set c v) (A.cells.set c dv) := dpAll_set' (Rb.DpAll.ts ts _ _ h.cn h.cs) (Rb.Dp.ts ts _ _ nl hv)
  refine { mem := h.mem.wcells, ek := h.ek, cs := cs, cn := noLs_set' h.cn nl, c7 := by rw [List.length_set]; exact h.c7, en := fun d hd => (h.en d hd).ts (h.ew d hd) ts, ew := h.ew, tw := fun d hd p hp dd e => ?_, qu := fun d hd => Rb.DpAll.ts ts _ _ (noLs_cmd _) (h.qu d hd), ti := h.ti, jo := ?_, jn := h.jn, bs := fun d hd => Rb.DpAll.ts ts _ _ (h.bn d hd).1 (h.bs d hd), bn := h.bn, lg := Rb.DpAll.ts ts _ _ h.ln h.lg, ln := h.ln, ct := h.ct, s0 := h.s0, s1 := h.s1, s2 := h.s2, s3 := h.s3 }
  · have e : (A.cells.set c dv)[56 + d * 6 + p]? = some dd := e
    rw [List.getElem?_set] at e
    by_cases q : c = 56 + d * 6 + p
    · rw [if_pos q] at e
      split at e
      · injection e with e
        subst e
        exact hw d hd p hp q
      · cases e
    · rw [if_neg q] at e
      exact h.tw d hd p hp dd e
  · obtain ⟨j0, j1, e, ⟨xs, a, b⟩, ⟨ys, c, d⟩⟩ := h.jo
    exact ⟨j0, j1, e, ⟨xs, ts _ _ a, Rb.DpAll.ts ts _ _ (h.jn 0 (by decide)) b⟩, ⟨ys, ts _ _ c, Rb.DpAll.ts ts _ _ (h.jn 1 (by decide)) d⟩⟩
theorem keyG {g : Nat → GS} {d : Nat} {G : GS} (h : ∀ i, i < 2 → KeyI (g i).ents) (hG : KeyI G.ents) : ∀ i, i < 2 → KeyI (setG g d G i).ents := fun i hi => by
  by_cases q : i = d
  · subst q
    rw [setG_same]
    exact hG
  · rw [setG_ne q]
    exact h i hi
theorem Abs.mono {K : PySem.W.Frag} {H : Hp} {L : ML} {M : MS} {A : AM} {N N' : Nat} (h : Abs K H L M A N) (l : N ≤ N') : Abs K H L M A N' :=
  { h with s0 := Nat.le_trans h.s0 l, s1 := fun d hd => Nat.le_trans (h.s1 d hd) l, s2 := fun d hd => Nat.le_trans (h.s2 d hd) l, s3 := fun d hd => Nat.le_trans (h.s3 d hd) (Nat.add_le_add_right l 100) }
theorem StepA.log {A A2 : AM} {d : Nat} {wd : Str} {ds : List PyData} {rd : PyData} (h : StepA A d wd ds rd A2) : A2.log = A.log := by
  have u : ∀ p, (useA A d p).log = A.log := fun p => by
    unfold useA
    split <;> rfl
  cases h <;> first | rfl | exact u _
theorem useA_cells {A : AM} {d p : Nat} : (useA A d p).cells = A.cells := by
  unfold useA
  split <;> rfl
/-- the word of a use -/
theorem Abs.word {K : PySem.W.Frag} {H : Hp} {L : ML} {M : MS} {A : AM} {N : Nat} (h : Abs K H L M A N) {d p : Nat} (hd : d < 2) (hp : p < 6) :
    ∃ wv, M.cells[56 + d * 6 + p]? = some wv ∧ Dp K H ((valV (M.gs d).ents (Sum.inl (p : Int))).getD wv) (useW A d p) ∧ (valV (M.gs d).ents (Sum.inl (p : Int)) = none ↔ A.ent d (p : Int) = none) ∧ (wv = .non ↔ A.cells[56 + d * 6 + p]?.getD .none = .none) := by
  have hl : 56 + d * 6 + p < A.cells.length := by
    rw [h.c7]
    omega
  have hx : A.cells[56 + d * 6 + p]? = some A.cells[56 + d * 6 + p] := List.getElem?_eq_getElem hl
  obtain ⟨wv, e1, e2⟩ := dpAll_get' h.cs hx
  have hn : wv = .non ↔ A.cells[56 + d * 6 + p]?.getD .none = .none := by
    rw [hx]
    show wv = .non ↔ A.cells[56 + d * 6 + p] = .none
    generalize A.cells[56 + d * 6 + p] = z at e2
    cases e2 <;> simp
  refine ⟨wv, e1, ?_, ?_, hn⟩
  · unfold useW
    rcases h.en d hd (p : Int) with ⟨q1, q2⟩ | ⟨v, dd, q1, q2, q3⟩
    · rw [q1, q2, hx]
      exact e2
    · rw [q1, q2]
      exact q3
  · rcases h.en d hd (p : Int) with ⟨q1, q2⟩ | ⟨v, dd, q1, q2, q3⟩
    · rw [q1, q2]
      simp
    · rw [q1, q2]
      simp
/-- .. is one -/
theorem Abs.wordIs {K : PySem.W.Frag} {H : Hp} {L : ML} {M : MS} {A : AM} {N : Nat} (h : Abs K H L M A N) {d p : Nat} (hd : d < 2) (hp : p < 6) : useW A d p = .none ∨ wordF (useW A d p) := by
  unfold useW
  cases e : A.ent d (p : Int) with
  | some dd => exact .inr (h.ew d hd _ _ e)
  | none =>
    have hl : 56 + d * 6 + p < A.cells.length := by
      rw [h.c7]
      omega
    have hx : A.cells[56 + d * 6 + p]? = some A.cells[56 + d * 6 + p] := List.getElem?_eq_getElem hl
    rw [hx]
    exact h.tw d hd p hp _ hx
/-- a memory behind a use -/
theorem Abs.use {K : PySem.W.Frag} {H H' : Hp} {L : ML} {M : MS} {A : AM} {N : Nat} (h : Abs K H L M A N) {d p : Nat} {wv : V} (hd : d < 2) (hp : p < 6) (hw : M.cells[56 + d * 6 + p]? = some wv)
    (m : MemAt (CM K) (CG K) L H' { M with gs := useG M d (p : Int) wv }) (ts : TSame K H H') : Abs K H' L { M with gs := useG M d (p : Int) wv } (useA A d p) (N + 1) := by
  obtain ⟨wv', e1, hW, hn, hz⟩ := h.word hd hp
  have ew : wv' = wv := by
    rw [hw] at e1
    exact (Option.some.inj e1).symm
  subst ew
  have hwi := h.wordIs hd hp
  have h' := (h.move (H' := H') (L := L) (M := M) (A := A) (N := N))
  have jo : ∃ j0 j1, M.jo = [.ref j0, .ref j1] ∧ (∃ xs, SqT K H' j0 xs ∧ DpAll K H' xs (A.jo 0)) ∧ (∃ xs, SqT K H' j1 xs ∧ DpAll K H' xs (A.jo 1)) := by
    obtain ⟨j0, j1, e, ⟨xs, a, b⟩, ⟨ys, c, d⟩⟩ := h.jo
    exact ⟨j0, j1, e, ⟨xs, ts _ _ a, Rb.DpAll.ts ts _ _ (h.jn 0 (by decide)) b⟩, ⟨ys, ts _ _ c, Rb.DpAll.ts ts _ _ (h.jn 1 (by decide)) d⟩⟩
  have gq : ∀ i, (useG M d (p : Int) wv' i).que = (M.gs i).que ∧ (useG M d (p : Int) wv' i).tix = (M.gs i).tix := fun i => by
    unfold useG
    by_cases q : i = d
    · subst q
      rw [setG_same]
      exact ⟨rfl, rfl⟩
    · rw [setG_ne q]
      exact ⟨rfl, rfl⟩
  have ge : (useG M d (p : Int) wv' d).ents = useE (M.gs d).ents (p : Int) wv' := by
    unfold useG
    rw [setG_same]
  have gn : ∀ i, i ≠ d → (useG M d (p : Int) wv' i).ents = (M.gs i).ents := fun i q => by
    unfold useG
    rw [setG_ne q]
  have gl : ∀ i, i < 2 → (useG M d (p : Int) wv' i).ents.length ≤ N + 1 := fun i hi => by
    by_cases q : i = d
    · subst q
      rw [ge]
      unfold useE
      split
      · exact Nat.le_trans (length_putK _ _ _) (Nat.succ_le_succ (h.s1 i hi))
      · exact Nat.le_succ_of_le (h.s1 i hi)
    · rw [gn i q]
      exact Nat.le_succ_of_le (h.s1 i hi)
  have kee : ∀ i, i < 2 → KeyI (useG M d (p : Int) wv' i).ents := fun i hi => by
    by_cases q : i = d
    · subst q
      rw [ge]
      unfold useE
      split
      · exact (h.ek i hi).put (by omega) (by omega)
      · exact h.ek i hi
    · rw [gn i q]
      exact h.ek i hi
  -- the entries and what they tell
  have key : (∀ i, i < 2 → EntR K H' (useG M d (p : Int) wv' i).ents ((useA A d p).ent i)) ∧ (∀ i, i < 2 → ∀ q dd, (useA A d p).ent i q = some dd → wordF dd) := by
    by_cases c : ((A.ent d (p : Int)).isNone && !isNoneD (useW A d p)) = true
    · obtain ⟨c1, c2⟩ := and2 c
      have c1' : A.ent d (p : Int) = none := Option.isNone_iff_eq_none.mp c1
      have c2' : useW A d p ≠ .none := fun z => by rw [z] at c2; cases c2
      have eu : useW A d p = A.cells[56 + d * 6 + p]?.getD .none := by
        unfold useW
        rw [c1']
        rfl
      have nw : wv' ≠ .non := fun z => c2' (by rw [eu]; exact hz.mp z)
      have vn : valV (M.gs d).ents (Sum.inl (p : Int)) = none := hn.mpr c1'
      have ee : useE (M.gs d).ents (p : Int) wv' = putK (M.gs d).ents (Sum.inl (p : Int)) wv' := by
        unfold useE
        rw [if_pos ⟨vn, nw⟩]
      have eA : (useA A d p).ent = updN A.ent d (updI (A.ent d) (p : Int) (some (useW A d p))) := by
        unfold useA
        rw [if_pos c]
      have wf := hwi.resolve_left c2'
      rw [vn] at hW
      refine ⟨fun i hi => ?_, fun i hi q dd e => ?_⟩
      · by_cases q : i = d
        · subst q
          rw [ge, ee, eA, updN_same]
          intro x
          rw [valV_put]
          unfold updI
          by_cases qx : x = (p : Int)
          · subst qx
            rw [if_pos rfl, if_pos rfl]
            exact .inr ⟨wv', _, rfl, rfl, Rb.Dp.ts ts _ _ wf.nl hW⟩
          · rw [if_neg (fun z => qx (by injection z)), if_neg qx]
            exact (h.en i hi).ts (h.ew i hi) ts x
        · rw [gn i q, eA, updN_ne q]
          exact (h.en i hi).ts (h.ew i hi) ts
      · rw [eA] at e
        by_cases q2 : i = d
        · subst q2
          rw [updN_same] at e
          unfold updI at e
          split at e
          · injection e with e
            subst e
            exact wf
          · exact h.ew i hi _ _ e
        · rw [updN_ne q2] at e
          exact h.ew i hi _ _ e
    · have eA : useA A d p = A := by
        unfold useA
        rw [if_neg c]
      have ee : useE (M.gs d).ents (p : Int) wv' = (M.gs d).ents := by
        unfold useE
        rw [if_neg]
        rintro ⟨z1, z2⟩
        apply c
        have c1' := hn.mp z1
        rw [c1']
        have eu : useW A d p = A.cells[56 + d * 6 + p]?.getD .none := by
          unfold useW
          rw [c1']
          rfl
        have : useW A d p ≠ .none := fun z => z2 (hz.mpr (by rw [← eu]; exact z))
        cases q : useW A d p with
        | none => exact absurd q this
        | _ => rfl
      rw [eA]
      refine ⟨fun i hi => ?_, h.ew⟩
      by_cases q : i = d
      · subst q
        rw [ge, ee]
        exact (h.en i hi).ts (h.ew i hi) ts
      · rw [gn i q]
        exact (h.en i hi).ts (h.ew i hi) ts
  have eq2 : (useA A d p).cells = A.cells ∧ (useA A d p).que = A.que ∧ (useA A d p).tix = A.tix ∧ (useA A d p).jo = A.jo ∧ (useA A d p).bl = A.bl ∧ (useA A d p).log = A.log := by
    unfold useA
    split <;> exact ⟨rfl, rfl, rfl, rfl, rfl, rfl⟩
  obtain ⟨a1, a2, a3, a4, a5, a6⟩ := eq2
  exact { mem := m, ek := kee, cs := by rw [a1]; exact Rb.DpAll.ts ts _ _ h.cn h.cs, cn := by rw [a1]; exact h.cn, c7 := by rw [a1]; exact h.c7, en := key.1, ew := key.2, tw := by rw [a1]; exact h.tw,
          qu := fun i hi => by
            rw [a2]
            show DpAll K H' (useG M d (p : Int) wv' i).que _
            rw [(gq i).1]
            exact Rb.DpAll.ts ts _ _ (noLs_cmd _) (h.qu i hi),
          ti := fun i hi => by
            rw [a3]
            show (useG M d (p : Int) wv' i).tix = _
            rw [(gq i).2]
            exact h.ti i hi,
          jo := by rw [a4]; exact jo, jn := by rw [a4]; exact h.jn, bs := fun i hi => by rw [a5]; exact Rb.DpAll.ts ts _ _ (h.bn i hi).1 (h.bs i hi), bn := by rw [a5]; exact h.bn, lg := by rw [a6]; exact Rb.DpAll.ts ts _ _ h.ln h.lg, ln := by rw [a6]; exact h.ln, ct := by rw [a6]; exact h.ct,
          s0 := by rw [a6]; exact Nat.le_succ_of_le h.s0, s1 := gl, s2 := by rw [a2]; exact fun i hi => Nat.le_succ_of_le (h.s2 i hi), s3 := by rw [a4]; exact fun i hi => Nat.le_trans (h.s3 i hi) (by omega) }
end Rb
namespace Rb
open PySem PySem.Spec PyProof.Rows L2
theorem noLs_at : ∀ {ds : List PyData} {i : Nat} {d : PyData}, noLs ds = true → ds[i]? = some d → noL d = true
  | [], _, _, _, e => by simp at e
  | x :: xs, 0, d, h, e => by
    simp at e
    subst e
    exact (and2 (show (noL x && noLs xs) = true from h)).1
  | x :: xs, i + 1, d, h, e => noLs_at (i := i) (and2 (show (noL x && noLs xs) = true from h)).2 (by simpa using e)
theorem dp_non {K : PySem.W.Frag} {H : Hp} {v : V} (h : Dp K H v .none) : v = .non := by
  cases h
  rfl
theorem dp_word {K : PySem.W.Frag} {H : Hp} {v : V} {f : Int} {r : Str} (h : Dp K H v (.tuple [.int f, .str r])) : ∃ t, v = .ref t ∧ SqT K H t [.int f, .str r] := by
  cases h with
  | @tup a xs ds hs ha =>
    cases ha with
    | cons h1 h2 =>
      cases h1
      cases h2 with
      | cons h3 h4 =>
        cases h3
        cases h4
        exact ⟨a, rfl, hs⟩
theorem dp_cmd {K : PySem.W.Frag} {H : Hp} {v : V} {f r : Int} (h : Dp K H v (.tuple [.int f, .int r])) : ∃ t, v = .ref t ∧ SqT K H t [.int f, .int r] := by
  cases h with
  | @tup a xs ds hs ha =>
    cases ha with
    | cons h1 h2 =>
      cases h1
      cases h2 with
      | cons h3 h4 =>
        cases h3
        cases h4
        exact ⟨a, rfl, hs⟩
theorem inC {L : ML} : L.aC ∈ L.all := by simp [ML.all]
theorem inJ {L : ML} : L.aJ ∈ L.all := by simp [ML.all]
theorem KL.eq {L : ML} {H H' : Hp} (k : ∀ b, b ∉ L.all → H' b = H b) : KL L H H' := fun b o h n => (k b n).trans h
theorem valV_drop_same {kvs : List (Key × V)} {k : Key} : valV (dropK kvs k) k = none := by
  cases e : valV (dropK kvs k) k with
  | none => rfl
  | some v =>
    have := valV_in e
    obtain ⟨a, ha, hk⟩ := List.mem_map.mp this
    have h2 := (List.mem_filter.mp ha).2
    rw [hk] at h2
    simp at h2
theorem valV_drop_ne {k j : Key} (h : j ≠ k) : ∀ {kvs : List (Key × V)}, valV (dropK kvs k) j = valV kvs j
  | [] => rfl
  | p :: r => by
    have ih := valV_drop_ne (k := k) (j := j) h (kvs := r)
    unfold dropK at ih ⊢
    rw [List.filter_cons]
    by_cases c : p.1 = k
    · rw [if_neg (by simp [c]), ih, valV_neg (fun z => h (z.symm.trans c))]
    · rw [if_pos (by simp [c])]
      by_cases c2 : p.1 = j
      · rw [valV_pos c2, valV_pos c2]
      · rw [valV_neg c2, valV_neg c2, ih]
/-- what a request brings, by data -/
theorem step_res {K : PySem.W.Frag} {H : Hp} {L : ML} {M : MS} {A A2 : AM} {N d : Nat} {wd : Str} {xs : List V} {ds : List PyData} {rd : PyData} {Q : VK} (hA : Abs K H L M A N) (hd : d < 2) (hN : N < 3000)
    (st : StepA A d wd ds rd A2) (hD : DpAll K H xs ds)
    (fin : ∀ r H2 M2, Abs K H2 L M2 A2 (N + 1) → Dp K H2 r rd → noL rd = true → KL L H H2 → Q r H2) : ResP K L M d H Q wd xs := by
  have len : M.cells.length = 70 := by
    rw [Rb.DpAll.len hA.cs]
    exact hA.c7
  have hents : (M.gs d).ents.length < 4000 := Nat.lt_of_le_of_lt (hA.s1 d hd) (by omega)
  have hA1 := hA.mono (Nat.le_succ N)
  cases st with
  | @read c x h =>
    cases hD with
    | cons h1 h2 =>
      cases h1
      cases h2
      obtain ⟨v, e, hv⟩ := dpAll_get' hA.cs h
      exact .read e (fin v H M hA1 hv (noLs_at hA.cn h) KL.refl)
  | @write c v h nl hw =>
    cases hD with
    | cons h1 h2 =>
      cases h1
      cases h2 with
      | cons h3 h4 =>
        cases h4
        exact .write (by omega) (fin .non _ _ (hA1.cells h3 nl hw) .non rfl (KL.refl.upd inC))
  | @rNo p i hp h =>
    cases hD with
    | cons h1 h2 =>
      cases h1
      cases h2 with
      | cons h3 h4 =>
        cases h3
        cases h4
        obtain ⟨wv, e1, hW, _, _⟩ := hA.word hd hp
        rw [h] at hW
        exact .dmaRead ⟨L, M, d, p, i, wv, rfl, hA.mem, hd, e1, hents, .inl ⟨dp_non hW, fin .non H M hA1 .non rfl KL.refl⟩⟩
  | @rOff p i f r hp h hr =>
    cases hD with
    | cons h1 h2 =>
      cases h1
      cases h2 with
      | cons h3 h4 =>
        cases h3
        cases h4
        obtain ⟨wv, e1, hW, _, _⟩ := hA.word hd hp
        rw [h] at hW
        obtain ⟨t, et, hq⟩ := dp_word hW
        refine .dmaRead ⟨L, M, d, p, i, wv, rfl, hA.mem, hd, e1, hents, .inr ⟨t, f, r, et, hq, fun H' m k => ⟨fun _ => ?_, fun z => absurd z hr⟩⟩⟩
        exact fin .non H' _ (hA.use hd hp e1 m ((KL.eq k).ts hA.mem)) .non rfl (KL.eq k)
  | @rYes p i f x hp h hx =>
    cases hD with
    | cons h1 h2 =>
      cases h1
      cases h2 with
      | cons h3 h4 =>
        cases h3
        cases h4
        obtain ⟨wv, e1, hW, _, _⟩ := hA.word hd hp
        rw [h] at hW
        obtain ⟨t, et, hq⟩ := dp_word hW
        refine .dmaRead ⟨L, M, d, p, i, wv, rfl, hA.mem, hd, e1, hents, .inr ⟨t, f, "r", et, hq, fun H' m k => ⟨fun z => absurd rfl z, fun _ => ⟨?_, fun q v ev hq' => ?_⟩⟩⟩⟩
        · rw [len, ← hA.c7]
          exact (List.getElem?_eq_some_iff.mp hx).1
        · obtain ⟨v', ev', hv⟩ := dpAll_get' hA.cs hx
          have e : v' = v := by
            have ev : M.cells[(d * 6 + f) * 4 + i]? = some v := ev
            rw [ev'] at ev
            exact Option.some.inj ev
          subst e
          have a2 := hA.use hd hp e1 m ((KL.eq k).ts hA.mem)
          have s := Same.new (o := HO.tup [v']) (Same.refl H') hq'
          have nx := noLs_at hA.cn hx
          refine fin (.ref q) _ _ (a2.same s) (.tup (SqT.of upd_same) (.cons (Rb.Dp.same s _ _ (Rb.Dp.ts ((KL.eq k).ts hA.mem) _ _ nx hv)) .nil)) ?_ ((KL.eq k).trans (KL.of s))
          show (noL x && true) = true
          rw [nx]
          rfl
  | @wNo p i v hp h =>
    cases hD with
    | cons h1 h2 =>
      cases h1
      cases h2 with
      | cons h3 h4 =>
        cases h3
        cases h4 with
        | cons h5 h6 =>
          cases h6
          obtain ⟨wv, e1, hW, _, _⟩ := hA.word hd hp
          rw [h] at hW
          exact .dmaWrite ⟨_, L, M, d, p, i, wv, rfl, hA.mem, hd, e1, hents, .inl ⟨dp_non hW, fin (.bl false) H M hA1 (.bl _) rfl KL.refl⟩⟩
  | @wOff p i f r v hp h hr =>
    cases hD with
    | cons h1 h2 =>
      cases h1
      cases h2 with
      | cons h3 h4 =>
        cases h3
        cases h4 with
        | cons h5 h6 =>
          cases h6
          obtain ⟨wv, e1, hW, _, _⟩ := hA.word hd hp
          rw [h] at hW
          obtain ⟨t, et, hq⟩ := dp_word hW
          refine .dmaWrite ⟨_, L, M, d, p, i, wv, rfl, hA.mem, hd, e1, hents, .inr ⟨t, f, r, et, hq, fun H' m k => ⟨fun _ => ?_, fun z => absurd z hr⟩⟩⟩
          exact fin (.bl false) H' _ (hA.use hd hp e1 m ((KL.eq k).ts hA.mem)) (.bl _) rfl (KL.eq k)
  | @wYes p i f v hp h hi nl =>
    cases hD with
    | cons h1 h2 =>
      cases h1
      cases h2 with
      | cons h3 h4 =>
        cases h3
        cases h4 with
        | cons h5 h6 =>
          cases h6
          obtain ⟨wv, e1, hW, _, _⟩ := hA.word hd hp
          have hwi := hA.wordIs hd hp
          rw [h] at hW hwi
          obtain ⟨t, et, hq⟩ := dp_word hW
          have hf : f < 6 := by
            rcases hwi with z | ⟨f', r', e, hf, _⟩
            · cases z
            · injection e with e
              injection e with e _
              injection e with e
              omega
          refine .dmaWrite ⟨_, L, M, d, p, i, wv, rfl, hA.mem, hd, e1, hents, .inr ⟨t, f, "w", et, hq, fun H' m k => ⟨fun z => absurd rfl z, fun _ => ⟨by rw [len]; omega, ?_⟩⟩⟩⟩
          have ts : TSame K H H' := (KL.eq k).ts hA.mem
          have a2 := hA.use hd hp e1 m ts
          have a3 := a2.cells (c := (d * 6 + f) * 4 + i) (Rb.Dp.ts ts _ _ nl h5) nl (fun d' hd' p' hp' e => by omega)
          rw [useA_cells] at a3
          exact fin (.bl true) _ _ a3 (.bl _) rfl ((KL.eq k).upd inC)
  | @command p =>
    cases hD with
    | cons h1 h2 =>
      cases h1
      cases h2
      have G := hA.mem.gu d hd
      obtain ⟨_, ndg, _⟩ := ML.apart hd hA.mem.nd
      have eti := hA.ti d hd
      have hql : (M.gs d).que.length = (A.que d).length := by
        rw [Rb.DpAll.len (hA.qu d hd), List.length_map]
      refine .command ⟨L.gs d, M.gs d, p, rfl, G, ndg, by rw [hql]; exact Nat.lt_of_le_of_lt (hA.s2 d hd) (by omega), fun t H' ht hG et k => ?_⟩
      have ht0 := hA.mem.nin ht
      have hM' := hA.mem.guard hd hG fun b hb hb2 => k b hb2 fun z => ht0 (z ▸ hb)
      have kl : KL L H H' := fun b o hb hn => (k b (fun z => hn (ML.in_g hd z)) (ne_of_none hb ht)).trans hb
      have ts : TSame K H H' := kl.ts hA.mem
      have a2 := hA1.move (H' := H') (M := M) (L := L)
      obtain ⟨j0, j1, ej, ⟨ys, ja, jb⟩, ⟨zs, jc, jd⟩⟩ := hA1.jo
      refine fin _ H' _ { mem := hM', ek := keyG hA.ek (hA.ek d hd), cs := Rb.DpAll.ts ts _ _ hA.cn hA.cs, cn := hA.cn, c7 := hA.c7, en := fun i hi => ?_, ew := hA.ew, tw := hA.tw, qu := fun i hi => ?_, ti := fun i hi => ?_, jo := ⟨j0, j1, ej, ⟨ys, ts _ _ ja, Rb.DpAll.ts ts _ _ (hA.jn 0 (by decide)) jb⟩, ⟨zs, ts _ _ jc, Rb.DpAll.ts ts _ _ (hA.jn 1 (by decide)) jd⟩⟩, jn := hA.jn, bs := fun i hi => Rb.DpAll.ts ts _ _ (hA.bn i hi).1 (hA.bs i hi), bn := hA.bn, lg := Rb.DpAll.ts ts _ _ hA.ln hA.lg, ln := hA.ln, ct := hA.ct, s0 := hA1.s0, s1 := fun i hi => ?_, s2 := fun i hi => ?_, s3 := hA1.s3 } ?_ rfl kl
      · show EntR K H' (setG M.gs d _ i).ents _
        by_cases q : i = d
        · subst q
          rw [setG_same]
          exact (hA.en i hi).ts (hA.ew i hi) ts
        · rw [setG_ne q]
          exact (hA.en i hi).ts (hA.ew i hi) ts
      · show DpAll K H' (setG M.gs d _ i).que ((updN A.que d _ i).map cmdD)
        by_cases q : i = d
        · subst q
          rw [setG_same, updN_same, List.map_append]
          refine Rb.DpAll.app (Rb.DpAll.ts ts _ _ (noLs_cmd _) (hA.qu i hi)) (.cons ?_ .nil)
          rw [eti] at et
          exact .tup (SqT.of et) (.cons (.int _) (.cons (.int _) .nil))
        · rw [setG_ne q, updN_ne q]
          exact Rb.DpAll.ts ts _ _ (noLs_cmd _) (hA.qu i hi)
      · show (setG M.gs d _ i).tix = updN A.tix d _ i
        by_cases q : i = d
        · subst q
          rw [setG_same, updN_same]
          show (M.gs i).tix + 1 = _
          rw [eti]
        · rw [setG_ne q, updN_ne q]
          exact hA.ti i hi
      · show (setG M.gs d _ i).ents.length ≤ N + 1
        by_cases q : i = d
        · subst q
          rw [setG_same]
          exact hA1.s1 i hi
        · rw [setG_ne q]
          exact hA1.s1 i hi
      · show (updN A.que d _ i).length ≤ N + 1
        by_cases q : i = d
        · subst q
          rw [updN_same, List.length_append]
          exact Nat.succ_le_succ (hA.s2 i hi)
        · rw [updN_ne q]
          exact hA1.s2 i hi
      · rw [eti]
        exact .int _
  | dropNo h =>
    cases hD
    have e : (M.gs d).que = [] := by
      have := hA.qu d hd
      rw [h] at this
      cases hx : (M.gs d).que with
      | nil => rfl
      | cons a b =>
        rw [hx] at this
        cases this
    exact .drop ⟨L, M, d, rfl, hA.mem, hd, len, .inl ⟨e, fin (.bl false) H M hA1 (.bl _) rfl KL.refl⟩⟩
  | @drop p n r h =>
    cases hD
    have hq := hA.qu d hd
    rw [h] at hq
    cases hx : (M.gs d).que with
    | nil =>
      rw [hx] at hq
      cases hq
    | cons a b =>
      rw [hx] at hq
      cases hq with
      | cons h1 h2 =>
        obtain ⟨t, rfl, ht⟩ := dp_cmd h1
        refine .drop ⟨L, M, d, rfl, hA.mem, hd, len, .inr ⟨t, p, n, b, hx, ht, fun H' m k => ?_⟩⟩
        have kl : KL L H H' := KL.eq k
        have ts : TSame K H H' := kl.ts hA.mem
        obtain ⟨j0, j1, ej, ⟨ys, ja, jb⟩, ⟨zs, jc, jd⟩⟩ := hA1.jo
        have ge : (dropG M d p b d) = { M.gs d with que := b, ents := dropK (M.gs d).ents (Sum.inl p) } := by
          unfold dropG
          rw [setG_same]
        have gn : ∀ i, i ≠ d → dropG M d p b i = M.gs i := fun i q => by
          unfold dropG
          rw [setG_ne q]
        refine fin (.bl true) H' _ { mem := m, ek := keyG (g := M.gs) hA.ek (KeyI.drop (hA.ek d hd)), cs := dpAll_set' (Rb.DpAll.ts ts _ _ hA.cn hA.cs) (.int n), cn := noLs_set' hA.cn rfl, c7 := by show (A.cells.set _ _).length = 70; rw [List.length_set]; exact hA.c7, en := fun i hi => ?_, ew := fun i hi q dd e => ?_, tw := fun i hi q hq dd e => ?_, qu := fun i hi => ?_, ti := fun i hi => ?_, jo := ⟨j0, j1, ej, ⟨ys, ts _ _ ja, Rb.DpAll.ts ts _ _ (hA.jn 0 (by decide)) jb⟩, ⟨zs, ts _ _ jc, Rb.DpAll.ts ts _ _ (hA.jn 1 (by decide)) jd⟩⟩, jn := hA.jn, bs := fun i hi => Rb.DpAll.ts ts _ _ (hA.bn i hi).1 (hA.bs i hi), bn := hA.bn, lg := Rb.DpAll.ts ts _ _ hA.ln hA.lg, ln := hA.ln, ct := hA.ct, s0 := hA1.s0, s1 := fun i hi => ?_, s2 := fun i hi => ?_, s3 := hA1.s3 } (.bl _) rfl kl
        · show EntR K H' (dropG M d p b i).ents (updN A.ent d _ i)
          by_cases q : i = d
          · subst q
            rw [ge, updN_same]
            intro x
            unfold updI
            by_cases qx : x = p
            · subst qx
              rw [if_pos rfl]
              exact .inl ⟨valV_drop_same, rfl⟩
            · rw [if_neg qx]
              show (valV (dropK _ _) _ = none ∧ _) ∨ _
              rw [valV_drop_ne (fun z => qx (by injection z))]
              exact (hA.en i hi).ts (hA.ew i hi) ts x
          · rw [gn i q, updN_ne q]
            exact (hA.en i hi).ts (hA.ew i hi) ts
        · have e : updN A.ent d (updI (A.ent d) p none) i q = some dd := e
          by_cases q2 : i = d
          · subst q2
            rw [updN_same] at e
            unfold updI at e
            split at e
            · cases e
            · exact hA.ew i hi _ _ e
          · rw [updN_ne q2] at e
            exact hA.ew i hi _ _ e
        · have e : (A.cells.set (68 + d) (.int n))[56 + i * 6 + q]? = some dd := e
          rw [List.getElem?_set, if_neg (by omega)] at e
          exact hA.tw i hi q hq dd e
        · show DpAll K H' (dropG M d p b i).que ((updN A.que d r i).map cmdD)
          by_cases q : i = d
          · subst q
            rw [ge, updN_same]
            exact Rb.DpAll.ts ts _ _ (noLs_cmd _) h2
          · rw [gn i q, updN_ne q]
            exact Rb.DpAll.ts ts _ _ (noLs_cmd _) (hA.qu i hi)
        · show (dropG M d p b i).tix = A.tix i
          by_cases q : i = d
          · subst q
            rw [ge]
            exact hA.ti i hi
          · rw [gn i q]
            exact hA.ti i hi
        · show (dropG M d p b i).ents.length ≤ N + 1
          by_cases q : i = d
          · subst q
            rw [ge]
            exact Nat.le_trans (List.length_filter_le _ _) (hA1.s1 i hi)
          · rw [gn i q]
            exact hA1.s1 i hi
        · show (updN A.que d r i).length ≤ N + 1
          by_cases q : i = d
          · subst q
            rw [updN_same]
            have := hA1.s2 i hi
            rw [h] at this
            exact Nat.le_trans (Nat.le_succ _) this
          · rw [updN_ne q]
            exact hA1.s2 i hi
  | @fetch b x y z h =>
    cases hD with
    | cons h1 h2 =>
      cases h1
      cases h2 with
      | cons h3 h4 =>
        cases h3
        cases h4 with
        | cons h5 h6 =>
          cases h5
          cases h6
          obtain ⟨v, e, hv⟩ := dpAll_get' (hA.bs d hd) h
          exact .fetch e (fin v H M hA1 hv (noLs_at (hA.bn d hd).1 h) KL.refl)
  | @commit b v y z hb nl =>
    cases hD with
    | cons h1 h2 =>
      cases h1
      cases h2 with
      | cons h3 h4 =>
        cases h4 with
        | cons h5 h6 =>
          cases h5
          cases h6 with
          | cons h7 h8 =>
            cases h7
            cases h8
            rename_i vv
            obtain ⟨j0, j1, ej, ⟨ys, ja, jb⟩, ⟨zs, jc, jd⟩⟩ := hA.jo
            obtain ⟨j, js, ejd, hjs, hjd⟩ : ∃ j js, M.jo[d]? = some (.ref j) ∧ SqT K H j js ∧ DpAll K H js (A.jo d) := by
              rw [ej]
              rcases lt2 hd with rfl | rfl
              · exact ⟨j0, ys, rfl, ja, jb⟩
              · exact ⟨j1, zs, rfl, jc, jd⟩
            have hbl : (M.bl d).length = 8 := by
              rw [Rb.DpAll.len (hA.bs d hd)]
              exact (hA.bn d hd).2
            refine .commit (by omega) ejd hjs ?_ fun t u ht hu ut => ?_
            · rw [Rb.DpAll.len hjd]
              exact Nat.lt_of_le_of_lt (hA.s3 d hd) (by omega)
            · have m1 := hA.mem.wbl (xs := (M.bl d).set b vv) hd
              have ts1 : TSame K H (upd H (L.bl d) (.lst ((M.bl d).set b vv))) := TSame.lst (hA.mem.obl d hd)
              have nbd : L.bl d ∈ L.all := ML.in_b hd
              have t1 : (upd H (L.bl d) (.lst ((M.bl d).set b vv))) t = none := by
                rw [upd_ne (fun z => hA.mem.nin ht (by rw [z]; exact nbd))]
                exact ht
              have m2 := m1.new (o := .tup [V.int y, .int z]) t1
              have s2 := Same.new (o := HO.tup [V.int y, .int z]) (Same.refl _) t1
              have u1 : (upd (upd H (L.bl d) (.lst ((M.bl d).set b vv))) t (.tup [V.int y, .int z])) u = none := by
                rw [upd_ne ut, upd_ne (fun z => hA.mem.nin hu (by rw [z]; exact nbd))]
                exact hu
              have m3 := m2.new (o := .tup (js ++ [.ref t])) u1
              have s3 := Same.new (o := HO.tup (js ++ [.ref t])) (Same.refl _) u1
              have m4 := m3.wjo (xs := M.jo.set d (.ref u))
              have ts4 : TSame K _ (upd (upd (upd (upd H (L.bl d) (.lst ((M.bl d).set b vv))) t (.tup [V.int y, .int z])) u (.tup (js ++ [.ref t]))) L.aJ (.lst (M.jo.set d (.ref u)))) := TSame.lst m3.oj
              have ts : TSame K H _ := (ts1.trans (TSame.same (s2.trans s3))).trans ts4
              have kl : KL L H (upd (upd (upd (upd H (L.bl d) (.lst ((M.bl d).set b vv))) t (.tup [V.int y, .int z])) u (.tup (js ++ [.ref t]))) L.aJ (.lst (M.jo.set d (.ref u)))) := (((KL.refl.upd nbd).new t1).new u1).upd inJ
              have hu4 := ts4 _ _ (SqT.of (upd_same (H := upd (upd H (L.bl d) (.lst ((M.bl d).set b vv))) t (.tup [V.int y, .int z])) (a := u) (o := HO.tup (js ++ [.ref t]))))
              have ht4 := ts4 _ _ (Same.seqT s3 (SqT.of (upd_same (H := upd H (L.bl d) (.lst ((M.bl d).set b vv))) (a := t) (o := HO.tup [V.int y, .int z]))))
              have jnew := Rb.DpAll.app (Rb.DpAll.ts ts _ _ (hA.jn d hd) hjd) (DpAll.cons (Dp.tup ht4 (.cons (.int y) (.cons (.int z) .nil))) .nil)
              refine fin .non _ _ { mem := m4, ek := hA.ek, cs := Rb.DpAll.ts ts _ _ hA.cn hA.cs, cn := hA.cn, c7 := hA.c7, en := fun i hi => (hA.en i hi).ts (hA.ew i hi) ts, ew := hA.ew, tw := hA.tw, qu := fun i hi => Rb.DpAll.ts ts _ _ (noLs_cmd _) (hA.qu i hi), ti := hA.ti, jo := ?_, jn := fun i hi => ?_, bs := fun i hi => ?_, bn := fun i hi => ?_, lg := Rb.DpAll.ts ts _ _ hA.ln hA.lg, ln := hA.ln, ct := hA.ct, s0 := hA1.s0, s1 := hA1.s1, s2 := hA1.s2, s3 := fun i hi => ?_ } .non rfl kl
              · rcases lt2 hd with rfl | rfl
                · refine ⟨u, j1, by show M.jo.set 0 (.ref u) = _; rw [ej]; rfl, ⟨_, hu4, by simpa [updN] using jnew⟩, ⟨zs, ts _ _ jc, by simpa [updN] using Rb.DpAll.ts ts _ _ (hA.jn 1 (by decide)) jd⟩⟩
                · refine ⟨j0, u, by show M.jo.set 1 (.ref u) = _; rw [ej]; rfl, ⟨ys, ts _ _ ja, by simpa [updN] using Rb.DpAll.ts ts _ _ (hA.jn 0 (by decide)) jb⟩, ⟨_, hu4, by simpa [updN] using jnew⟩⟩
              · show noLs (updN A.jo d _ i) = true
                by_cases q : i = d
                · subst q
                  rw [updN_same, noLs_app, hA.jn i hi]
                  rfl
                · rw [updN_ne q]
                  exact hA.jn i hi
              · show DpAll K _ (setB M.bl d ((M.bl d).set b vv) i) (updN A.bl d _ i)
                by_cases q : i = d
                · subst q
                  rw [updN_same]
                  unfold setB
                  rw [if_pos rfl]
                  exact dpAll_set' (Rb.DpAll.ts ts _ _ (hA.bn i hi).1 (hA.bs i hi)) (Rb.Dp.ts ts _ _ nl h3)
                · rw [updN_ne q]
                  unfold setB
                  rw [if_neg q]
                  exact Rb.DpAll.ts ts _ _ (hA.bn i hi).1 (hA.bs i hi)
              · show noLs (updN A.bl d _ i) = true ∧ (updN A.bl d _ i).length = 8
                by_cases q : i = d
                · subst q
                  rw [updN_same, List.length_set]
                  exact ⟨noLs_set' (hA.bn i hi).1 nl, (hA.bn i hi).2⟩
                · rw [updN_ne q]
                  exact hA.bn i hi
              · show (updN A.jo d _ i).length ≤ N + 1 + 100
                by_cases q : i = d
                · subst q
                  rw [updN_same, List.length_append]
                  have := hA.s3 i hi
                  show (A.jo i).length + 1 ≤ _
                  omega
                · rw [updN_ne q]
                  exact hA1.s3 i hi
  | journal =>
    cases hD
    obtain ⟨j0, j1, ej, ⟨ys, ja, jb⟩, ⟨zs, jc, jd⟩⟩ := hA.jo
    obtain ⟨j, js, ejd, hjs, hjd⟩ : ∃ j js, M.jo[d]? = some (.ref j) ∧ SqT K H j js ∧ DpAll K H js (A.jo d) := by
      rw [ej]
      rcases lt2 hd with rfl | rfl
      · exact ⟨j0, ys, rfl, ja, jb⟩
      · exact ⟨j1, zs, rfl, jc, jd⟩
    exact .journal ejd (fin _ H M hA1 (.tup hjs hjd) (hA.jn d hd) KL.refl)
  | @tell ds nl hl =>
    cases hD with
    | cons h1 h2 =>
      cases h2
      cases h1 with
      | @tup a ys ds hs ha =>
        obtain ⟨j0, j1, ej, ⟨y0, ja, jb⟩, ⟨z0, jc, jd⟩⟩ := hA.jo
        refine .tell (by rw [ej]; exact hd) ?_
        have m4 := hA.mem.wjo (xs := M.jo.set d (.ref a))
        have ts : TSame K H (upd H L.aJ (.lst (M.jo.set d (.ref a)))) := TSame.lst hA.mem.oj
        refine fin .non _ _ { mem := m4, ek := hA.ek, cs := Rb.DpAll.ts ts _ _ hA.cn hA.cs, cn := hA.cn, c7 := hA.c7, en := fun i hi => (hA.en i hi).ts (hA.ew i hi) ts, ew := hA.ew, tw := hA.tw, qu := fun i hi => Rb.DpAll.ts ts _ _ (noLs_cmd _) (hA.qu i hi), ti := hA.ti, jo := ?_, jn := fun i hi => ?_, bs := fun i hi => Rb.DpAll.ts ts _ _ (hA.bn i hi).1 (hA.bs i hi), bn := hA.bn, lg := Rb.DpAll.ts ts _ _ hA.ln hA.lg, ln := hA.ln, ct := hA.ct, s0 := hA1.s0, s1 := hA1.s1, s2 := hA1.s2, s3 := fun i hi => ?_ } .non rfl (KL.refl.upd inJ)
        · have jnew := Rb.DpAll.ts ts _ _ nl ha
          rcases lt2 hd with rfl | rfl
          · refine ⟨a, j1, by show M.jo.set 0 (.ref a) = _; rw [ej]; rfl, ⟨_, ts _ _ hs, by simpa [updN] using jnew⟩, ⟨z0, ts _ _ jc, by simpa [updN] using Rb.DpAll.ts ts _ _ (hA.jn 1 (by decide)) jd⟩⟩
          · refine ⟨j0, a, by show M.jo.set 1 (.ref a) = _; rw [ej]; rfl, ⟨y0, ts _ _ ja, by simpa [updN] using Rb.DpAll.ts ts _ _ (hA.jn 0 (by decide)) jb⟩, ⟨_, ts _ _ hs, by simpa [updN] using jnew⟩⟩
        · show noLs (updN A.jo d _ i) = true
          by_cases q : i = d
          · subst q
            rw [updN_same]
            exact nl
          · rw [updN_ne q]
            exact hA.jn i hi
        · show (updN A.jo d _ i).length ≤ N + 1 + 100
          by_cases q : i = d
          · subst q
            rw [updN_same]
            omega
          · rw [updN_ne q]
            exact hA1.s3 i hi
end Rb
namespace Rb
open PySem PySem.Spec PyProof.Rows L2
def logD (n : Int) (role : Str) (d : Nat) (wd : Str) (ds : List PyData) (rd : PyData) : PyData := .tuple [.int n, .tuple [.str role, .int (d : Int)], .tuple (.str wd :: ds), rd]
theorem logD_nl {n : Int} {role : Str} {d : Nat} {wd : Str} {ds : List PyData} {rd : PyData} (h : noLs ds = true) (h2 : noL rd = true) : noL (logD n role d wd ds rd) = true := by
  show (true && ((true && (true && true)) && ((true && noLs ds) && (noL rd && true)))) = true
  rw [h, h2]
  rfl
/-- an access that is allowed, by data -/
def spAcc (K : PySem.W.Frag) : Sp := fun vs H Q _ => ∃ (L : ML) (M : MS) (A A2 : AM) (N : Nat) (a q : Addr) (role wd : Str) (d : Nat) (rs ks : List Str) (xs : List V) (ds : List PyData) (rd : PyData), vs = [.ref L.m, .ref a, .ref q] ∧ Abs K H L M A N ∧ N < 2900 ∧
  SqT K H a [.str role, .int (d : Int)] ∧ SqT K H q (.str wd :: xs) ∧ DpAll K H xs ds ∧ noLs ds = true ∧ szs ds ≤ 4000 ∧ (wd, rs, ks) ∈ formsL ∧ d < 2 ∧ (wd = "write" → isTw (d : Int) (cellOf ds) = true → wordForm (valOf ds)) ∧
  allowB role (d : Int) wd rs ks ds = true ∧ StepA A d wd ds rd A2 ∧
  ∀ (u : Addr) (r : V) (H' : Hp) (M' : MS), Abs K H' L M' { A2 with log := A.log ++ [logD (A.log.length + 1) role d wd ds rd] } (N + 1) → Dp K H' r rd → noL rd = true → KL L H H' → H u = none → H' u = some (.tup [r, .int (A.log.length + 1)]) → Q (.ref u) H'
theorem acc_imp {K : PySem.W.Frag} : ∀ vs H Q E, spAcc K vs H Q E → spAccess K vs H Q E := by
  rintro vs H Q E ⟨L, M, A, A2, N, a, q, role, wd, d, rs, ks, xs, ds, rd, rfl, hA, hN, ha, hq, hD, hn, hs, hf, hd, hw, hal, st, k⟩
  refine ⟨L, M, a, role, d, q, wd, rs, ks, xs, ds, rfl, hA.mem, ha, hq, hD, hn, hs, hf, hw, hd, fun z => (by rw [hal] at z; cases z), fun _ H1 Q' s1 m1 fin => ?_⟩
  refine step_res (hA.same s1) hd (by omega) st (Rb.DpAll.same s1 _ _ hD) fun r H2 M2 a2 hr nr kl => fin r H2 ?_
  have el := st.log
  have l2 : M2.log.length = A.log.length := by rw [Rb.DpAll.len a2.lg, el]
  have hl := hA.s0
  refine ⟨M2, a2.mem, by omega, fun t u H3 m3 ht hu ut et eu k3 => ?_⟩
  have kl3 : KL L H2 H3 := fun b o hb hn => (k3 b hn (ne_of_none hb ht) (ne_of_none hb hu)).trans hb
  have ts3 : TSame K H2 H3 := kl3.ts a2.mem
  have ts2 : TSame K H1 H2 := kl.ts m1
  have ts : TSame K H H3 := ((TSame.same s1).trans ts2).trans ts3
  have ct : M2.count = (A.log.length : Int) := by rw [a2.ct, el]
  have hr3 := Rb.Dp.ts ts3 _ _ nr hr
  have a3 := a2.move (H' := H2) a2.mem TSame.refl
  obtain ⟨j0, j1, ej, ⟨ys, ja, jb⟩, ⟨zs, jc, jd⟩⟩ := a2.jo
  have hlog : Dp K H3 (.ref t) (logD (A.log.length + 1) role d wd ds rd) := by
    rw [ct] at et
    exact .tup (SqT.of et) (.cons (.int _) (.cons (.tup (ts _ _ ha) (.cons (.str _) (.cons (.int _) .nil))) (.cons (.tup (ts _ _ hq) (.cons (.str _) (Rb.DpAll.ts ts _ _ hn hD))) (.cons hr3 .nil))))
  refine k u r H3 { M2 with count := M2.count + 1, log := M2.log ++ [.ref t] } { mem := m3, ek := a2.ek, cs := Rb.DpAll.ts ts3 _ _ a2.cn a2.cs, cn := a2.cn, c7 := a2.c7, en := fun i hi => (a2.en i hi).ts (a2.ew i hi) ts3, ew := a2.ew, tw := a2.tw, qu := fun i hi => Rb.DpAll.ts ts3 _ _ (noLs_cmd _) (a2.qu i hi), ti := a2.ti, jo := ⟨j0, j1, ej, ⟨ys, ts3 _ _ ja, Rb.DpAll.ts ts3 _ _ (a2.jn 0 (by decide)) jb⟩, ⟨zs, ts3 _ _ jc, Rb.DpAll.ts ts3 _ _ (a2.jn 1 (by decide)) jd⟩⟩, jn := a2.jn, bs := fun i hi => Rb.DpAll.ts ts3 _ _ (a2.bn i hi).1 (a2.bs i hi), bn := a2.bn, lg := ?_, ln := ?_, ct := ?_, s0 := ?_, s1 := a2.s1, s2 := a2.s2, s3 := a2.s3 } hr3 nr (((KL.of s1).trans kl).trans kl3) ?_ ?_
  · have := a2.lg
    rw [el] at this
    have ln := a2.ln
    rw [el] at ln
    exact Rb.DpAll.app (Rb.DpAll.ts ts3 _ _ ln this) (.cons hlog .nil)
  · have ln := a2.ln
    rw [el] at ln
    show noLs (A.log ++ [logD (A.log.length + 1) role d wd ds rd]) = true
    rw [noLs_app, ln]
    show (true && (noL (logD (A.log.length + 1) role d wd ds rd) && true)) = true
    rw [logD_nl hn nr]
    rfl
  · show M2.count + 1 = ((A.log ++ [_]).length : Int)
    rw [ct, List.length_append]
    rfl
  · show (A.log ++ [_]).length ≤ N + 1
    rw [List.length_append]
    exact Nat.succ_le_succ hl
  · cases e : H u with
    | none => rfl
    | some o =>
      exfalso
      have e1 := s1 _ _ e
      have nu : u ∉ L.all := a2.mem.nin hu
      rw [kl _ _ e1 nu] at hu
      cases hu
  · rw [ct] at eu
    exact eu
section
variable {P : Program} {w : World} {K : PySem.W.Frag} {mg : Str → Option Value} {base : Heap}
theorem ok_acc (T : Top K mg) (TB : ∃ es n, KDict K w (He.ga K "FORMS") es n) : FnC P w K mg base (L2.CX P w) 7 (He.ma K (He.ga K "Memory") "access") (spAcc K) := (ok_access T TB).imp acc_imp
end
end Rb
namespace Rb
open PySem PySem.Spec PyProof.Rows L2
/-! ### a new memory, by data -/
def vD : V → PyData
  | .int i => .int i
  | _ => .none
def zD : PyData := .tuple [.int 0, .int 0, .int 0, .int 0]
def A0 : AM := ⟨cells0.map vD, fun _ _ => none, fun _ => [], fun _ => 0, fun _ => [], fun _ => List.replicate 8 zD, []⟩
theorem cells0_70 : cells0.length = 70 := fcD_len 2
theorem cells0_is : ∀ c < 70, cells0[c]? = some (if c < 8 ∨ (24 ≤ c ∧ c < 32) ∨ (56 ≤ c ∧ c < 68) then V.non else V.int 0) := by decide +kernel
theorem dp_simple {K : PySem.W.Frag} {H : Hp} : ∀ {vs : List V}, (∀ v ∈ vs, v = .non ∨ v = .int 0) → DpAll K H vs (vs.map vD)
  | [], _ => .nil
  | v :: vs, h => by
    refine .cons ?_ (dp_simple fun x hx => h x (List.mem_cons_of_mem _ hx))
    rcases h v (List.mem_cons_self ..) with rfl | rfl
    · exact .non
    · exact .int 0
theorem noL_simple : ∀ vs : List V, noLs (vs.map vD) = true
  | [] => rfl
  | v :: vs => by
    show (noL (vD v) && noLs (vs.map vD)) = true
    rw [noL_simple vs]
    cases v <;> rfl
theorem abs0 {K : PySem.W.Frag} {H : Hp} {L : ML} {z : Nat → Addr} {t : Addr} (m : MemAt (CM K) (CG K) L H (M0 z t)) (hz : ∀ i, i < 2 → H (z i) = some (.tup [.int 0, .int 0, .int 0, .int 0])) (ht : H t = some (.tup [])) : Abs K H L (M0 z t) A0 0 := by
  have cs : DpAll K H cells0 (cells0.map vD) := dp_simple fun v hv => by
    obtain ⟨c, hc⟩ := List.mem_iff_getElem?.mp hv
    have hl : c < 70 := by
      rw [← cells0_70]
      exact (List.getElem?_eq_some_iff.mp hc).1
    rw [cells0_is c hl] at hc
    injection hc with hc
    split at hc
    · exact .inl hc.symm
    · exact .inr hc.symm
  refine { mem := m, ek := fun d hd => ⟨[], rfl, .nil, fun k hk => nomatch hk⟩, cs := cs, cn := noL_simple _, c7 := by show (cells0.map vD).length = 70; rw [List.length_map]; exact cells0_70, en := fun d hd p => .inl ⟨rfl, rfl⟩, ew := fun d hd p dd e => (nomatch e), tw := fun d hd p hp dd e => ?_, qu := fun d hd => .nil, ti := fun d hd => rfl, jo := ⟨t, t, rfl, ⟨[], SqT.of ht, .nil⟩, ⟨[], SqT.of ht, .nil⟩⟩, jn := fun d hd => rfl, bs := fun d hd => ?_, bn := fun d hd => ⟨rfl, rfl⟩, lg := .nil, ln := rfl, ct := rfl, s0 := Nat.le_refl _, s1 := fun d hd => Nat.le_refl _, s2 := fun d hd => Nat.le_refl _, s3 := fun d hd => Nat.zero_le _ }
  · have e : (cells0.map vD)[56 + d * 6 + p]? = some dd := e
    rw [List.getElem?_map, cells0_is _ (by omega), if_pos (by omega)] at e
    injection e with e
    exact .inl e.symm
  · have dz : Dp K H (.ref (z d)) zD := .tup (SqT.of (hz d hd)) (.cons (.int 0) (.cons (.int 0) (.cons (.int 0) (.cons (.int 0) .nil))))
    show DpAll K H (List.replicate 8 (.ref (z d))) (List.replicate 8 zD)
    exact .cons dz (.cons dz (.cons dz (.cons dz (.cons dz (.cons dz (.cons dz (.cons dz .nil)))))))
/-! ### what is allowed -/
theorem stIn_t {c f n : Int} (h1 : f ≤ c) (h2 : c < f + n) : stIn c f n = true := by
  unfold stIn
  rw [decide_eq_true h1, decide_eq_true h2]
  rfl
theorem fits_int {c : Int} : fitsD "integer" (.int c) = true := by
  show (if ("integer" : Str) == "page" then _ else _) = true
  rw [if_neg (by decide), if_neg (by decide), if_neg (by decide), if_neg (by decide), if_neg (by decide), if_neg (by decide)]
  rfl
theorem fits_val {d : PyData} : fitsD "value" d = isVal d := by
  show (if ("value" : Str) == "page" then _ else _) = _
  rw [if_neg (by decide), if_neg (by decide), if_neg (by decide), if_pos (by decide)]
theorem fits_page {p : Nat} (h : p < 6) : fitsD "page" (.int (p : Int)) = true := by
  show (if ("page" : Str) == "page" then _ else _) = true
  rw [if_pos (by decide)]
  show (decide ((0 : Int) ≤ p) && decide ((p : Int) < 6)) = true
  rw [decide_eq_true (by omega), decide_eq_true (by omega)]
  rfl
theorem fits_index {p : Nat} (h : p < 4) : fitsD "index" (.int (p : Int)) = true := by
  show (if ("index" : Str) == "page" then _ else _) = true
  rw [if_neg (by decide), if_pos (by decide)]
  show (decide ((0 : Int) ≤ p) && decide ((p : Int) < 4)) = true
  rw [decide_eq_true (by omega), decide_eq_true (by omega)]
  rfl
theorem num2 {d : Nat} (h : d < 2) : isNum (.int (d : Int)) 2 = true := isNum_nat (n := 2) h
theorem may_drv {d c : Nat} (hd : d < 2) (h : (24 * d ≤ c ∧ c < 24 * d + 24) ∨ (48 + 4 * d ≤ c ∧ c < 52 + 4 * d) ∨ (56 + 6 * d ≤ c ∧ c < 62 + 6 * d) ∨ c = 68 + d) : mayR "driver" (d : Int) (c : Int) = true := by
  unfold mayR
  rw [if_neg (by decide)]
  rcases h with h | h | h | h
  · rw [stIn_t (by unfold fcell; omega) (by unfold fcell; omega)]
    rfl
  · have : isReg (d : Int) (c : Int) = true := stIn_t (by unfold dbell; omega) (by unfold dbell; omega)
    rw [this, Bool.true_or, Bool.or_true]
  · have : isTw (d : Int) (c : Int) = true := stIn_t (by unfold tword; omega) (by unfold tword; omega)
    rw [this, Bool.true_or, Bool.or_true, Bool.or_true]
  · have : decide ((c : Int) = ackw (d : Int)) = true := decide_eq_true (by unfold ackw; omega)
    rw [this, Bool.or_true, Bool.or_true, Bool.or_true]
theorem tw_no {d c : Nat} (h : c < 56 + 6 * d ∨ 62 + 6 * d ≤ c) : isTw (d : Int) (c : Int) = false := by
  unfold isTw stIn tword
  rcases h with h | h
  · rw [decide_eq_false (by omega)]
    rfl
  · rw [Bool.and_comm, decide_eq_false (by omega)]
    rfl
abbrev rsRW : List Str := ["driver", "device"]
theorem al_write {d c : Nat} {v : PyData} (hd : d < 2) (hv : isVal v = true) (hc : mayR "driver" (d : Int) (c : Int) = true) (hw : isTw (d : Int) (c : Int) = true → isWordD v = true) : allowB "driver" (d : Int) "write" rsRW ["integer", "value"] [.int (c : Int), v] = true := by
  unfold allowB hasF
  show (isNum (.int (d : Int)) 2 && ((inV (.str "driver") [.str "driver", .str "device"] && (decide (2 = 2) && (fitsD "integer" (.int (c : Int)) && (fitsD "value" v && true)))) && (if inV (.str "write") [.str "read", .str "write"] then mayR "driver" (d : Int) (c : Int) && (if ("write" : Str) == "write" && isTw (d : Int) (c : Int) then isWordD v else true) else true))) = true
  rw [num2 hd, fits_int, fits_val, hv, hc, (by decide : inV (.str "driver") [.str "driver", .str "device"] = true), (by decide : inV (.str "write") [.str "read", .str "write"] = true), (by decide : (("write" : Str) == "write") = true)]
  cases e : isTw (d : Int) (c : Int) with
  | false => rfl
  | true =>
    rw [hw e]
    rfl
theorem al_read {d c : Nat} (hd : d < 2) (hc : mayR "driver" (d : Int) (c : Int) = true) : allowB "driver" (d : Int) "read" rsRW ["integer"] [.int (c : Int)] = true := by
  unfold allowB hasF
  show (isNum (.int (d : Int)) 2 && ((inV (.str "driver") [.str "driver", .str "device"] && (decide (1 = 1) && (fitsD "integer" (.int (c : Int)) && true))) && (if inV (.str "read") [.str "read", .str "write"] then mayR "driver" (d : Int) (c : Int) && (if ("read" : Str) == "write" && isTw (d : Int) (c : Int) then isWordD _ else true) else true))) = true
  rw [num2 hd, fits_int, hc, (by decide : inV (.str "driver") [.str "driver", .str "device"] = true), (by decide : inV (.str "read") [.str "read", .str "write"] = true), (by decide : (("read" : Str) == "write") = false)]
  rfl
theorem al_dread {d p i : Nat} (hd : d < 2) (hp : p < 6) (hi : i < 4) : allowB "device" (d : Int) "dma read" ["device"] ["page", "index"] [.int (p : Int), .int (i : Int)] = true := by
  unfold allowB hasF
  show (isNum (.int (d : Int)) 2 && ((inV (.str "device") [.str "device"] && (decide (2 = 2) && (fitsD "page" (.int (p : Int)) && (fitsD "index" (.int (i : Int)) && true)))) && (if inV (.str "dma read") [.str "read", .str "write"] then _ else true))) = true
  rw [num2 hd, fits_page hp, fits_index hi, (by decide : inV (.str "device") [.str "device"] = true), (by decide : inV (.str "dma read") [.str "read", .str "write"] = false)]
  rfl
theorem al_dwrite {d p i : Nat} {v : PyData} (hd : d < 2) (hp : p < 6) (hi : i < 4) (hv : isVal v = true) : allowB "device" (d : Int) "dma write" ["device"] ["page", "index", "value"] [.int (p : Int), .int (i : Int), v] = true := by
  unfold allowB hasF
  show (isNum (.int (d : Int)) 2 && ((inV (.str "device") [.str "device"] && (decide (3 = 3) && (fitsD "page" (.int (p : Int)) && (fitsD "index" (.int (i : Int)) && (fitsD "value" v && true))))) && (if inV (.str "dma write") [.str "read", .str "write"] then _ else true))) = true
  rw [num2 hd, fits_page hp, fits_index hi, fits_val, hv, (by decide : inV (.str "device") [.str "device"] = true), (by decide : inV (.str "dma write") [.str "read", .str "write"] = false)]
  rfl
theorem isTw_in {d c : Nat} (h : isTw (d : Int) (c : Int) = true) : 56 + d * 6 ≤ c ∧ c < 56 + d * 6 + 6 := by
  unfold isTw stIn tword at h
  obtain ⟨h1, h2⟩ := and2 h
  have h1 := of_decide_eq_true h1
  have h2 := of_decide_eq_true h2
  omega
theorem wordF.is {d : PyData} (h : d = .none ∨ wordF d) : isWordD d = true := by
  rcases h with rfl | ⟨f, r, rfl, hf, hr⟩
  · rfl
  · show (isNum (.int (f : Int)) 6 && inV (.str r) [.str "r", .str "w"]) = true
    rw [show isNum (.int (f : Int)) 6 = true from isNum_nat (n := 6) hf]
    rcases hr with rfl | rfl <;> decide +kernel
theorem wordF.form {d : PyData} (h : d = .none ∨ wordF d) : wordForm d := by
  rcases h with rfl | ⟨f, r, rfl, _⟩
  · exact .inl rfl
  · exact .inr ⟨_, _, rfl⟩
section
variable {K : PySem.W.Frag} {H : Hp} {Q : VK} {E : XK} {L : ML} {M : MS} {A : AM} {N d : Nat} {a q : Addr} {v : V} {dv : PyData}
/-- the driver writes -/
theorem acc_write {c : Nat} (hA : Abs K H L M A N) (hN : N < 2900) (hd : d < 2) (ha : SqT K H a [.str "driver", .int (d : Int)]) (hq : SqT K H q [.str "write", .int (c : Int), v]) (hv : Dp K H v dv) (iv : isVal dv = true) (nl : noL dv = true) (hz : sz dv ≤ 3000)
    (hc : mayR "driver" (d : Int) (c : Int) = true) (h70 : c < 70) (hw : ∀ d', d' < 2 → ∀ p, p < 6 → c = 56 + d' * 6 + p → dv = .none ∨ wordF dv)
    (k : ∀ (u : Addr) (H' : Hp) (M' : MS), Abs K H' L M' { A with cells := A.cells.set c dv, log := A.log ++ [logD (A.log.length + 1) "driver" d "write" [.int (c : Int), dv] .none] } (N + 1) → KL L H H' → H u = none → H' u = some (.tup [.non, .int (A.log.length + 1)]) → Q (.ref u) H') :
    spAcc K [.ref L.m, .ref a, .ref q] H Q E := by
  have tw : isTw (d : Int) (c : Int) = true → dv = .none ∨ wordF dv := fun h => by
    obtain ⟨h1, h2⟩ := isTw_in h
    exact hw d hd (c - (56 + d * 6)) (by omega) (by omega)
  refine ⟨L, M, A, _, N, a, q, "driver", "write", d, rsRW, ["integer", "value"], [.int (c : Int), v], [.int (c : Int), dv], .none, rfl, hA, hN, ha, hq, .cons (.int _) (.cons hv .nil), ?_, ?_, by simp [formsL], hd, fun _ h => wordF.form (tw h), al_write hd iv hc (fun h => wordF.is (tw h)), .write h70 nl hw, fun u r H' M' a' hr _ kl hu eu => ?_⟩
  · show (true && (noL dv && true)) = true
    rw [nl]
    rfl
  · show 1 + (sz dv + 0) ≤ 4000
    omega
  · cases hr
    exact k u H' M' a' kl hu eu
/-- the driver reads -/
theorem acc_read {c : Nat} {x : PyData} (hA : Abs K H L M A N) (hN : N < 2900) (hd : d < 2) (ha : SqT K H a [.str "driver", .int (d : Int)]) (hq : SqT K H q [.str "read", .int (c : Int)])
    (hc : mayR "driver" (d : Int) (c : Int) = true) (hx : A.cells[c]? = some x)
    (k : ∀ (u : Addr) (r : V) (H' : Hp) (M' : MS), Abs K H' L M' { A with log := A.log ++ [logD (A.log.length + 1) "driver" d "read" [.int (c : Int)] x] } (N + 1) → Dp K H' r x → KL L H H' → H u = none → H' u = some (.tup [r, .int (A.log.length + 1)]) → Q (.ref u) H') :
    spAcc K [.ref L.m, .ref a, .ref q] H Q E :=
  ⟨L, M, A, _, N, a, q, "driver", "read", d, rsRW, ["integer"], [.int (c : Int)], [.int (c : Int)], x, rfl, hA, hN, ha, hq, .cons (.int _) .nil, rfl, by show 1 + 0 ≤ 4000; omega, by simp [formsL], hd, fun z => absurd z (by decide), al_read hd hc, .read hx, fun u r H' M' a' hr _ kl hu eu => k u r H' M' a' hr kl hu eu⟩
/-- the device reads by dma -/
theorem acc_dread {p i : Nat} {rd : PyData} {A2 : AM} (hA : Abs K H L M A N) (hN : N < 2900) (hd : d < 2) (hp : p < 6) (hi : i < 4) (ha : SqT K H a [.str "device", .int (d : Int)]) (hq : SqT K H q [.str "dma read", .int (p : Int), .int (i : Int)])
    (st : StepA A d "dma read" [.int (p : Int), .int (i : Int)] rd A2)
    (k : ∀ (u : Addr) (r : V) (H' : Hp) (M' : MS), Abs K H' L M' { A2 with log := A.log ++ [logD (A.log.length + 1) "device" d "dma read" [.int (p : Int), .int (i : Int)] rd] } (N + 1) → Dp K H' r rd → KL L H H' → H u = none → H' u = some (.tup [r, .int (A.log.length + 1)]) → Q (.ref u) H') :
    spAcc K [.ref L.m, .ref a, .ref q] H Q E :=
  ⟨L, M, A, _, N, a, q, "device", "dma read", d, ["device"], ["page", "index"], [.int (p : Int), .int (i : Int)], [.int (p : Int), .int (i : Int)], rd, rfl, hA, hN, ha, hq, .cons (.int _) (.cons (.int _) .nil), rfl, by show 1 + (1 + 0) ≤ 4000; omega, by simp [formsL], hd, fun z => absurd z (by decide), al_dread hd hp hi, st, fun u r H' M' a' hr _ kl hu eu => k u r H' M' a' hr kl hu eu⟩
/-- the device writes by dma -/
theorem acc_dwrite {p i : Nat} {rd : PyData} {A2 : AM} (hA : Abs K H L M A N) (hN : N < 2900) (hd : d < 2) (hp : p < 6) (hi : i < 4) (ha : SqT K H a [.str "device", .int (d : Int)]) (hq : SqT K H q [.str "dma write", .int (p : Int), .int (i : Int), v])
    (hv : Dp K H v dv) (iv : isVal dv = true) (nl : noL dv = true) (hz : sz dv ≤ 3000)
    (st : StepA A d "dma write" [.int (p : Int), .int (i : Int), dv] rd A2)
    (k : ∀ (u : Addr) (r : V) (H' : Hp) (M' : MS), Abs K H' L M' { A2 with log := A.log ++ [logD (A.log.length + 1) "device" d "dma write" [.int (p : Int), .int (i : Int), dv] rd] } (N + 1) → Dp K H' r rd → KL L H H' → H u = none → H' u = some (.tup [r, .int (A.log.length + 1)]) → Q (.ref u) H') :
    spAcc K [.ref L.m, .ref a, .ref q] H Q E := by
  refine ⟨L, M, A, _, N, a, q, "device", "dma write", d, ["device"], ["page", "index", "value"], [.int (p : Int), .int (i : Int), v], [.int (p : Int), .int (i : Int), dv], rd, rfl, hA, hN, ha, hq, .cons (.int _) (.cons (.int _) (.cons hv .nil)), ?_, ?_, by simp [formsL], hd, fun z => absurd z (by decide), al_dwrite hd hp hi iv, st, fun u r H' M' a' hr _ kl hu eu => k u r H' M' a' hr kl hu eu⟩
  · show (true && (true && (noL dv && true))) = true
    rw [nl]
    rfl
  · show 1 + (1 + (sz dv + 0)) ≤ 4000
    omega
end
end Rb
namespace Rb
open PySem PySem.Spec PyProof.Rows L2
/-! ### the rings -/
def phI (n : Int) : Int := 1 - n / 4 % 2
def isKind : V → Bool
  | .str s => inV (.str s) [.str "read", .str "write"]
  | _ => false
def isNat : V → Bool
  | .int i => decide (0 ≤ i)
  | _ => false
def isPh (n : Int) : V → Bool
  | .int i => decide (V.int i = V.int (phI n))
  | _ => false
def isSame (n : Int) : V → Bool
  | .int i => decide (V.int i = V.int n)
  | _ => false
def isDone : V → Bool
  | .str s => decide (V.str s = V.str "done")
  | _ => false
def fitD (a b c e : V) : Bool := (isNum a 4 && (isKind b && isNum c 8)) && isNat e
def newD : List V → Int → Bool
  | [a, b, c, d, e], n => fitD a b c e && (isPh n d && isSame n e)
  | _, _ => false
def newC : List V → Int → Bool
  | [a, b, d], n => isNum a 4 && (isDone b && isPh n d)
  | _, _ => false
theorem isNum_int {v : V} {l : Int} (h : isNum v l = true) : ∃ i, v = .int i ∧ 0 ≤ i ∧ i < l := by
  cases v with
  | int i =>
    obtain ⟨h1, h2⟩ := Bool.and_eq_true_iff.mp (show (decide (0 ≤ i) && decide (i < l)) = true from h)
    exact ⟨i, rfl, of_decide_eq_true h1, of_decide_eq_true h2⟩
  | _ => cases h
theorem isKind_str {v : V} (h : isKind v = true) : ∃ s, v = .str s := by
  cases v with
  | str s => exact ⟨s, rfl⟩
  | _ => cases h
theorem isNat_int {v : V} (h : isNat v = true) : ∃ i, v = .int i ∧ 0 ≤ i := by
  cases v with
  | int i => exact ⟨i, rfl, of_decide_eq_true h⟩
  | _ => cases h
section
variable {P : Program} {w : World} {K : PySem.W.Frag} {mg : Str → Option Value} {base : Heap}
def spPage : Sp := fun vs H Q _ => ∃ i : Int, vs = [.int i] ∧ Q (.int (i + 2)) H
def spSlot : Sp := fun vs H Q _ => ∃ i : Int, vs = [.int i] ∧ Q (.int (i % 4)) H
theorem ok_slot_of (T : Top K mg) : FnC P w K mg base CX0 1 (He.ga K "slot_of") spSlot := by
  refine fnc0 T.d_slot_of sc_slot_of (fun _ _ _ _ _ _ us hl => match us, hl with | [_], _ => rfl) (fun vs H Q E h => ?_) (fun cdv A outer s H vs Q E hr h => ?_)
  · obtain ⟨i, rfl, _⟩ := h
    rfl
  · obtain ⟨i, rfl, k⟩ := h
    refine ⟨_, (pss_one (ps_ret (pe_op op_mod (pv 0) (pe_gc (by rfl) T.c_SLOTS)))), ?_⟩
    exact ⟨_, rfl, _, _, rfl, rfl, (by show (0 : Int) < 4; decide), k⟩
def spPhase : Sp := fun vs H Q _ => ∃ i : Int, vs = [.int i] ∧ Q (.int (phI i)) H
theorem ok_phase_of (T : Top K mg) : FnC P w K mg base CX0 1 (He.ga K "phase_of") spPhase := by
  refine fnc0 T.d_phase_of sc_phase_of (fun _ _ _ _ _ _ us hl => match us, hl with | [_], _ => rfl) (fun vs H Q E h => ?_) (fun cdv A outer s H vs Q E hr h => ?_)
  · obtain ⟨i, rfl, _⟩ := h
    rfl
  · obtain ⟨i, rfl, k⟩ := h
    refine ⟨_, (pss_one (ps_ret (pe_op op_sub pe_int (pe_op op_mod (pe_op op_fdiv (pv 0) (pe_gc (by rfl) T.c_SLOTS)) pe_int)))), ?_⟩
    exact ⟨_, rfl, _, _, rfl, rfl, ⟨by decide, by decide⟩, _, _, rfl, rfl, (by show (0 : Int) < 2; decide), _, _, rfl, rfl, k⟩
def spIsTag : Sp := fun vs H Q _ => ∃ v, vs = [v] ∧ El H v ∧ Q (.bl (isNum v 4)) H
theorem ok_is_tag (T : Top K mg) : FnC P w K mg base CX0 3 (He.ga K "is_tag") spIsTag := by
  have G_is_number := ok_is_number (P := P) (w := w) (base := base) T
  refine fnc0 T.d_is_tag sc_is_tag (fun _ _ _ _ _ _ us hl => match us, hl with | [_], _ => rfl) (fun vs H Q E h => ?_) (fun cdv A outer s H vs Q E hr h => ?_)
  · obtain ⟨v, rfl, _⟩ := h
    rfl
  · obtain ⟨v, rfl, e, k⟩ := h
    refine ⟨_, (pss_one (ps_ret (pe_f G_is_number hr (by decide) (by rfl) T.g_is_number pass0 (pa_cons (pv 0) (pa_cons (pe_gc (by rfl) T.c_TAGS) pa_nil))))), ?_⟩
    exact ⟨_, rfl, v, _, 4, rfl, e.ty, k⟩
def spIsOrder : Sp := fun vs H Q _ => ∃ a b c, vs = [a, b, c] ∧ El H a ∧ El H b ∧ El H c ∧ Q (.bl (isNum a 4 && (isKind b && isNum c 8))) H
theorem ok_is_order (T : Top K mg) : FnC P w K mg base CX0 4 (He.ga K "is_order") spIsOrder := by
  have G_is_number := ok_is_number (P := P) (w := w) (base := base) T
  have G_is_tag := ok_is_tag (P := P) (w := w) (base := base) T
  refine fnc0 T.d_is_order sc_is_order (fun _ _ _ _ _ _ us hl => match us, hl with | [_, _, _], _ => rfl) (fun vs H Q E h => ?_) (fun cdv A outer s H vs Q E hr h => ?_)
  · obtain ⟨a, b, c, rfl, _⟩ := h
    rfl
  · obtain ⟨a, b, c, rfl, ea, eb, ec, k⟩ := h
    refine ⟨_, (pss_one (ps_ret (pe_and (pe_f G_is_tag hr (by decide) (by rfl) T.g_is_tag pass0 (pa_cons (pv 0) pa_nil)) (pe_and (pe_cmpR op_isTyB (pe_callTy call_type1 (by rfl) T.b_type (by decide +kernel) (pa_cons (pv 1) pa_nil)) (pe_bltn (v := .ty "str") (by rfl) T.b_str (by decide +kernel) rfl) (nomark _)) (pe_and (pe_cmpR op_in_seq (pv 1) (pe_gc (by rfl) T.c_KINDS) rfl) (pe_one (pe_f G_is_number hr (by decide) (by rfl) T.g_is_number pass0 (pa_cons (pv 2) (pa_cons (pe_gc (by rfl) T.c_BLOCKS) pa_nil))))))))), ?_⟩
    refine ⟨_, rfl, a, rfl, ea, _, rfl, ?_⟩
    cases h1 : isNum a 4
    · rw [h1] at k
      exact k
    rw [h1, Bool.true_and] at k
    refine ⟨_, rfl, _, _, rfl, eb.ty, _, _, rfl, rfl, _, rfl, ?_⟩
    cases b with
    | str s =>
      refine ⟨_, rfl, _, _, rfl, .inr (T.t_KINDS _), rfl, (by rfl), _, rfl, ?_⟩
      show if inV (.str s) [.str "read", .str "write"] = true then _ else _
      have e2 : isKind (.str s) = inV (.str s) [.str "read", .str "write"] := rfl
      rw [e2] at k
      cases h2 : inV (.str s) [.str "read", .str "write"]
      · rw [h2] at k
        exact k
      rw [h2, Bool.true_and] at k
      exact ⟨_, rfl, _, _, 8, rfl, ec.ty, k⟩
    | _ => first | exact k | exact eb.elim
def spIsEnt : Sp := fun vs H Q _ => ∃ v, vs = [v] ∧ El H v ∧ Q (.bl (isNat v)) H
theorem ok_is_entry_number (T : Top K mg) : FnC P w K mg base CX0 2 (He.ga K "is_entry_number") spIsEnt := by
  have G_is_integer := ok_is_integer (P := P) (w := w) (base := base) T
  refine fnc0 T.d_is_entry_number sc_is_entry_number (fun _ _ _ _ _ _ us hl => match us, hl with | [_], _ => rfl) (fun vs H Q E h => ?_) (fun cdv A outer s H vs Q E hr h => ?_)
  · obtain ⟨v, rfl, _⟩ := h
    rfl
  · obtain ⟨v, rfl, e, k⟩ := h
    refine ⟨_, (pss_one (ps_ret (pe_and (pe_f G_is_integer hr (by decide) (by rfl) T.g_is_integer pass0 (pa_cons (pv 0) pa_nil)) (pe_one (pe_cmpR op_ge (pv 0) pe_int (nomark _)))))), ?_⟩
    refine ⟨_, rfl, v, _, rfl, e.ty, _, rfl, ?_⟩
    cases v with
    | int i => exact ⟨_, rfl, _, _, rfl, rfl, k⟩
    | _ => first | exact k | exact e.elim
def spHasPh : Sp := fun vs H Q _ => ∃ v n, vs = [v, .int n] ∧ El H v ∧ Q (.bl (isPh n v)) H
theorem ok_has_phase (T : Top K mg) : FnC P w K mg base CX0 2 (He.ga K "has_phase") spHasPh := by
  have G_is_integer := ok_is_integer (P := P) (w := w) (base := base) T
  have G_phase_of := ok_phase_of (P := P) (w := w) (base := base) T
  refine fnc0 T.d_has_phase sc_has_phase (fun _ _ _ _ _ _ us hl => match us, hl with | [_, _], _ => rfl) (fun vs H Q E h => ?_) (fun cdv A outer s H vs Q E hr h => ?_)
  · obtain ⟨v, n, rfl, _⟩ := h
    rfl
  · obtain ⟨v, n, rfl, e, k⟩ := h
    refine ⟨_, (pss_one (ps_ret (pe_and (pe_f G_is_integer hr (by decide) (by rfl) T.g_is_integer pass0 (pa_cons (pv 0) pa_nil)) (pe_one (pe_cmpR op_eq (pv 0) (pe_f G_phase_of hr (by decide) (by rfl) T.g_phase_of pass0 (pa_cons (pv 1) pa_nil)) (nomark _)))))), ?_⟩
    refine ⟨_, rfl, v, _, rfl, e.ty, _, rfl, ?_⟩
    cases v with
    | int i => exact ⟨_, rfl, _, rfl, n, rfl, rfl, k⟩
    | _ => first | exact k | exact e.elim
end
end Rb
namespace Rb
open PySem PySem.Spec PyProof.Rows L2
def spDesc (K : PySem.W.Frag) : Sp := fun vs H Q E => ∃ a b c e, vs = [a, b, c, e] ∧ El H a ∧ El H b ∧ El H c ∧ El H e ∧
  (∀ n, e = .int n → fitD a b c e = true → ∀ p, H p = none → Q (.ref p) (upd H p (.tup [a, b, c, .int (phI n), e]))) ∧ (fitD a b c e = false → E (NV K) none H)
def spComp (K : PySem.W.Frag) : Sp := fun vs H Q E => ∃ a e, vs = [a, e] ∧ El H a ∧ El H e ∧
  (∀ n, e = .int n → (isNum a 4 && isNat e) = true → ∀ p, H p = none → Q (.ref p) (upd H p (.tup [a, .str "done", .int (phI n)]))) ∧ ((isNum a 4 && isNat e) = false → E (NV K) none H)
section
variable {P : Program} {w : World} {K : PySem.W.Frag} {mg : Str → Option Value} {base : Heap}
theorem ok_descriptor (T : Top K mg) : FnC P w K mg base (L2.CX P w) 5 (He.ga K "descriptor") (spDesc K) := by
  have G_is_order := ok_is_order (P := P) (w := w) (base := base) T
  have G_is_entry_number := ok_is_entry_number (P := P) (w := w) (base := base) T
  have G_phase_of := ok_phase_of (P := P) (w := w) (base := base) T
  have G_NotValid___init__ := ok_NotValid_init (P := P) (w := w) (base := base) T
  refine fnc T.d_descriptor sc_descriptor (fun _ _ _ _ _ _ us hl => match us, hl with | [_, _, _, _], _ => rfl) (fun vs H Q E h => ?_) (fun cdv A outer s H vs Q E hr h => ?_)
  · obtain ⟨a, b, c, e, rfl, _⟩ := h
    rfl
  · obtain ⟨a, b, c, e, rfl, ea, eb, ec, ee, k, ke⟩ := h
    refine ⟨_, (pss_cons (ps_if (PW.pt (pw_or (pt_not (pt_val (pe_f G_is_order hr (by decide) (by rfl) T.g_is_order pass0 (pa_cons (pv 0) (pa_cons (pv 1) (pa_cons (pv 2) pa_nil)))))) (pw_or1 (pt_not (pt_val (pe_f G_is_entry_number hr (by decide) (by rfl) T.g_is_entry_number pass0 (pa_cons (pv 3) pa_nil))))))) (pss_one (ps_raise rfl (takes_of rfl rfl rfl rfl) (pmk_bare T.ex_NotValid T.ini_NotValid T.ity_NotValid G_NotValid___init__ hr (by decide) pass0 (by rfl) T.g_NotValid))) pss_nil)
    (pss_one (ps_ret (pe_tup (pa_cons (pv 0) (pa_cons (pv 1) (pa_cons (pv 2) (pa_cons (pe_f G_phase_of hr (by decide) (by rfl) T.g_phase_of pass0 (pa_cons (pv 3) pa_nil)) (pa_cons (pv 3) pa_nil))))))))), ?_⟩
    refine ⟨_, rfl, _, rfl, _, rfl, a, b, c, rfl, ea, eb, ec, _, rfl, ?_⟩
    cases h1 : (isNum a 4 && (isKind b && isNum c 8)) with
    | false =>
      refine ⟨fun x hx => ⟨x, _, rfl, T.ex_NotValid, upd_same, rfl, rfl⟩, ke ?_⟩
      show ((isNum a 4 && (isKind b && isNum c 8)) && isNat e) = false
      rw [h1]
      rfl
    | true =>
      refine ⟨_, rfl, e, rfl, ee, _, rfl, ?_⟩
      cases h2 : isNat e with
      | false =>
        refine ⟨fun x hx => ⟨x, _, rfl, T.ex_NotValid, upd_same, rfl, rfl⟩, ke ?_⟩
        show ((isNum a 4 && (isKind b && isNum c 8)) && isNat e) = false
        rw [h1, h2]
        rfl
      | true =>
        obtain ⟨n, rfl, _⟩ := isNat_int h2
        refine ⟨_, rfl, _, rfl, _, rfl, _, rfl, n, rfl, _, rfl, (by show 5 ≤ sizeLine; decide), ?_⟩
        refine k n rfl ?_
        show ((isNum a 4 && (isKind b && isNum c 8)) && isNat (.int n)) = true
        rw [h1, h2]
        rfl
theorem ok_completion (T : Top K mg) : FnC P w K mg base (L2.CX P w) 4 (He.ga K "completion") (spComp K) := by
  have G_is_tag := ok_is_tag (P := P) (w := w) (base := base) T
  have G_is_entry_number := ok_is_entry_number (P := P) (w := w) (base := base) T
  have G_phase_of := ok_phase_of (P := P) (w := w) (base := base) T
  have G_NotValid___init__ := ok_NotValid_init (P := P) (w := w) (base := base) T
  refine fnc T.d_completion sc_completion (fun _ _ _ _ _ _ us hl => match us, hl with | [_, _], _ => rfl) (fun vs H Q E h => ?_) (fun cdv A outer s H vs Q E hr h => ?_)
  · obtain ⟨a, e, rfl, _⟩ := h
    rfl
  · obtain ⟨a, e, rfl, ea, ee, k, ke⟩ := h
    refine ⟨_, (pss_cons (ps_if (PW.pt (pw_or (pt_not (pt_val (pe_f G_is_tag hr (by decide) (by rfl) T.g_is_tag pass0 (pa_cons (pv 0) pa_nil)))) (pw_or1 (pt_not (pt_val (pe_f G_is_entry_number hr (by decide) (by rfl) T.g_is_entry_number pass0 (pa_cons (pv 1) pa_nil))))))) (pss_one (ps_raise rfl (takes_of rfl rfl rfl rfl) (pmk_bare T.ex_NotValid T.ini_NotValid T.ity_NotValid G_NotValid___init__ hr (by decide) pass0 (by rfl) T.g_NotValid))) pss_nil)
    (pss_one (ps_ret (pe_tup (pa_cons (pv 0) (pa_cons (pe_gc (by rfl) T.c_DONE) (pa_cons (pe_f G_phase_of hr (by decide) (by rfl) T.g_phase_of pass0 (pa_cons (pv 1) pa_nil)) pa_nil))))))), ?_⟩
    refine ⟨_, rfl, a, rfl, ea, _, rfl, ?_⟩
    cases h1 : isNum a 4 with
    | false =>
      refine ⟨fun x hx => ⟨x, _, rfl, T.ex_NotValid, upd_same, rfl, rfl⟩, ke ?_⟩
      rw [h1]
      rfl
    | true =>
      refine ⟨_, rfl, e, rfl, ee, _, rfl, ?_⟩
      cases h2 : isNat e with
      | false =>
        refine ⟨fun x hx => ⟨x, _, rfl, T.ex_NotValid, upd_same, rfl, rfl⟩, ke ?_⟩
        rw [h1, h2]
        rfl
      | true =>
        obtain ⟨n, rfl, _⟩ := isNat_int h2
        refine ⟨_, rfl, _, rfl, n, rfl, (by show 3 ≤ sizeLine; decide), ?_⟩
        refine k n rfl ?_
        rw [h1, h2]
        rfl
def spNew (K : PySem.W.Frag) (f : List V → Int → Bool) : Sp := fun vs H Q _ => ∃ v n, vs = [v, .int n] ∧ ((v = .non ∧ Q (.bl false) H) ∨ ∃ a xs, v = .ref a ∧ SqT K H a xs ∧ (∀ x ∈ xs, El H x) ∧ Q (.bl (f xs n)) H)
theorem newD_len {xs : List V} {n : Int} (h : xs.length ≠ 5) : newD xs n = false := by
  match xs, h with
  | [], _ => rfl
  | [_], _ => rfl
  | [_, _], _ => rfl
  | [_, _, _], _ => rfl
  | [_, _, _, _], _ => rfl
  | [_, _, _, _, _], h => exact absurd rfl h
  | _ :: _ :: _ :: _ :: _ :: _ :: _, _ => rfl
theorem newC_len {xs : List V} {n : Int} (h : xs.length ≠ 3) : newC xs n = false := by
  match xs, h with
  | [], _ => rfl
  | [_], _ => rfl
  | [_, _], _ => rfl
  | [_, _, _], h => exact absurd rfl h
  | _ :: _ :: _ :: _ :: _, _ => rfl
theorem len5 {xs : List V} (h : xs.length = 5) : ∃ a b c d e, xs = [a, b, c, d, e] := by
  match xs, h with
  | [a, b, c, d, e], _ => exact ⟨a, b, c, d, e, rfl⟩
theorem len3 {xs : List V} (h : xs.length = 3) : ∃ a b c, xs = [a, b, c] := by
  match xs, h with
  | [a, b, c], _ => exact ⟨a, b, c, rfl⟩
theorem neI {n m : Nat} : (!decide (V.int (n : Int) = V.int (m : Int))) = !decide (n = m) := by
  congr 1
  by_cases c : n = m
  · subst c
    rw [decide_eq_true rfl, decide_eq_true rfl]
  · rw [decide_eq_false c, decide_eq_false]
    intro z
    injection z with z
    omega
def isC3 : List V → Bool
  | [a, b, d] => isNum a 4 && (isDone b && isNum d 2)
  | _ => false
theorem isC3_len {xs : List V} (h : xs.length ≠ 3) : isC3 xs = false := by
  match xs, h with
  | [], _ => rfl
  | [_], _ => rfl
  | [_, _], _ => rfl
  | [_, _, _], h => exact absurd rfl h
  | _ :: _ :: _ :: _ :: _, _ => rfl
theorem isPh_num {n : Int} {d : V} (h : isPh n d = true) : isNum d 2 = true := by
  cases d with
  | int i =>
    have h := of_decide_eq_true (show decide (V.int i = V.int (phI n)) = true from h)
    injection h with h
    subst h
    show (decide (0 ≤ phI n) && decide (phI n < 2)) = true
    have : 0 ≤ phI n ∧ phI n < 2 := by
      unfold phI
      omega
    rw [decide_eq_true this.1, decide_eq_true this.2]
    rfl
  | _ => cases h
theorem newC_of {a b d : V} {n : Int} : newC [a, b, d] n = (isC3 [a, b, d] && isPh n d) := by
  show (isNum a 4 && (isDone b && isPh n d)) = ((isNum a 4 && (isDone b && isNum d 2)) && isPh n d)
  cases h : isPh n d with
  | false => rw [Bool.and_false, Bool.and_false, Bool.and_false]
  | true => rw [isPh_num h]; simp
def spIsComp (K : PySem.W.Frag) : Sp := fun vs H Q _ => ∃ v, vs = [v] ∧ ((v = .non ∧ Q (.bl false) H) ∨ ∃ a xs, v = .ref a ∧ SqT K H a xs ∧ (∀ x ∈ xs, El H x) ∧ Q (.bl (isC3 xs)) H)
theorem ok_is_new_descriptor (T : Top K mg) : FnC P w K mg base CX0 5 (He.ga K "is_new_descriptor") (spNew K newD) := by
  have G_is_order := ok_is_order (P := P) (w := w) (base := base) T
  have G_is_entry_number := ok_is_entry_number (P := P) (w := w) (base := base) T
  have G_has_phase := ok_has_phase (P := P) (w := w) (base := base) T
  refine fnc0 T.d_is_new_descriptor sc_is_new_descriptor (fun _ _ _ _ _ _ us hl => match us, hl with | [_, _], _ => rfl) (fun vs H Q E h => ?_) (fun cdv A outer s H vs Q E hr h => ?_)
  · obtain ⟨v, n, rfl, _⟩ := h
    rfl
  · obtain ⟨v, n, rfl, h⟩ := h
    refine ⟨_, (pss_cons (ps_if (PW.pt (pw_or (pt_cmpR op_notTyB (pe_callTy call_type1 (by rfl) T.b_type (by decide +kernel) (pa_cons (pv 0) pa_nil)) (pe_bltn (v := .ty "tuple") (by rfl) T.b_tuple (by decide +kernel) rfl) (nomark _)) (pw_or1 (pt_cmpR op_ne (pe_callB call_len_seq (by rfl) T.b_len PySem.boot_len (pa_cons (pv 0) pa_nil)) pe_int (nomark _))))) (pss_one (ps_ret pe_bl)) pss_nil)
    (pss_cons (ps_asg (pv 0) (pg_tup rfl (pgs_cons (pg_name (i := 2) sc_is_new_descriptor.nd rfl (Or.inl rfl)) (pgs_cons (pg_name (i := 3) sc_is_new_descriptor.nd rfl (Or.inl rfl)) (pgs_cons (pg_name (i := 4) sc_is_new_descriptor.nd rfl (Or.inl rfl)) (pgs_cons (pg_name (i := 5) sc_is_new_descriptor.nd rfl (Or.inl rfl)) (pgs_cons (pg_name (i := 6) sc_is_new_descriptor.nd rfl (Or.inl rfl)) pgs_nil)))))))
    (pss_cons (ps_if (PW.pt (pw_or (pt_not (pt_val (pe_f G_is_order hr (by decide) (by rfl) T.g_is_order pass0 (pa_cons (pv 2) (pa_cons (pv 3) (pa_cons (pv 4) pa_nil)))))) (pw_or1 (pt_not (pt_val (pe_f G_is_entry_number hr (by decide) (by rfl) T.g_is_entry_number pass0 (pa_cons (pv 6) pa_nil))))))) (pss_one (ps_ret pe_bl)) pss_nil)
    (pss_one (ps_ret (pe_and (pe_f G_has_phase hr (by decide) (by rfl) T.g_has_phase pass0 (pa_cons (pv 5) (pa_cons (pv 1) pa_nil))) (pe_one (pe_cmpR op_eq (pv 6) (pv 1) (nomark _))))))))), ?_⟩
    rcases h with ⟨rfl, k⟩ | ⟨a, xs, rfl, e, es, k⟩
    · exact ⟨_, rfl, _, _, rfl, .non, _, _, rfl, rfl, _, rfl, k⟩
    refine ⟨_, rfl, _, _, rfl, .tup e, _, _, rfl, rfl, _, rfl, ?_⟩
    refine ⟨_, rfl, a, xs, rfl, .inr e, rfl, _, rfl, ?_⟩
    show if (!decide (V.int (xs.length : Int) = V.int ((5 : Nat) : Int))) = true then _ else _
    rw [neI]
    by_cases c : xs.length = 5
    · rw [decide_eq_true c]
      obtain ⟨x1, x2, x3, x4, x5, rfl⟩ := len5 c
      have e1 := es x1 (by simp)
      have e2 := es x2 (by simp)
      have e3 := es x3 (by simp)
      have e4 := es x4 (by simp)
      have e5 := es x5 (by simp)
      refine ⟨_, rfl, a, _, rfl, e, rfl, _, _, rfl, _, _, rfl, _, _, rfl, _, _, rfl, _, _, rfl, rfl, ?_⟩
      refine ⟨_, rfl, _, rfl, _, rfl, _, _, _, rfl, e1, e2, e3, _, rfl, ?_⟩
      have k' : Q (.bl (((isNum x1 4 && (isKind x2 && isNum x3 8)) && isNat x5) && (isPh n x4 && isSame n x5))) H := k
      cases h1 : (isNum x1 4 && (isKind x2 && isNum x3 8))
      · rw [h1] at k'
        exact k'
      refine ⟨_, rfl, _, rfl, e5, _, rfl, ?_⟩
      cases h2 : isNat x5
      · rw [h1, h2] at k'
        exact k'
      rw [h1, h2] at k'
      refine ⟨_, rfl, _, rfl, _, _, rfl, e4, _, rfl, ?_⟩
      cases h3 : isPh n x4
      · rw [h3] at k'
        exact k'
      rw [h3] at k'
      obtain ⟨i, rfl, _⟩ := isNat_int h2
      exact ⟨_, rfl, _, rfl, rfl, k'⟩
    · rw [decide_eq_false c]
      rw [newD_len c] at k
      exact k
theorem ok_is_completion (T : Top K mg) : FnC P w K mg base CX0 4 (He.ga K "is_completion") (spIsComp K) := by
  have G_is_tag := ok_is_tag (P := P) (w := w) (base := base) T
  have G_is_number := ok_is_number (P := P) (w := w) (base := base) T
  refine fnc0 T.d_is_completion sc_is_completion (fun _ _ _ _ _ _ us hl => match us, hl with | [_], _ => rfl) (fun vs H Q E h => ?_) (fun cdv A outer s H vs Q E hr h => ?_)
  · obtain ⟨v, rfl, _⟩ := h
    rfl
  · obtain ⟨v, rfl, h⟩ := h
    refine ⟨_, (pss_cons (ps_if (PW.pt (pw_or (pt_cmpR op_notTyB (pe_callTy call_type1 (by rfl) T.b_type (by decide +kernel) (pa_cons (pv 0) pa_nil)) (pe_bltn (v := .ty "tuple") (by rfl) T.b_tuple (by decide +kernel) rfl) (nomark _)) (pw_or1 (pt_cmpR op_ne (pe_callB call_len_seq (by rfl) T.b_len PySem.boot_len (pa_cons (pv 0) pa_nil)) pe_int (nomark _))))) (pss_one (ps_ret pe_bl)) pss_nil)
    (pss_cons (ps_asg (pv 0) (pg_tup rfl (pgs_cons (pg_name (i := 1) sc_is_completion.nd rfl (Or.inl rfl)) (pgs_cons (pg_name (i := 2) sc_is_completion.nd rfl (Or.inl rfl)) (pgs_cons (pg_name (i := 3) sc_is_completion.nd rfl (Or.inl rfl)) pgs_nil)))))
    (pss_one (ps_ret (pe_and (pe_f G_is_tag hr (by decide) (by rfl) T.g_is_tag pass0 (pa_cons (pv 1) pa_nil)) (pe_and (pe_cmpR op_isTyB (pe_callTy call_type1 (by rfl) T.b_type (by decide +kernel) (pa_cons (pv 2) pa_nil)) (pe_bltn (v := .ty "str") (by rfl) T.b_str (by decide +kernel) rfl) (nomark _)) (pe_and (pe_cmpR op_eq (pv 2) (pe_gc (by rfl) T.c_DONE) (nomark _)) (pe_one (pe_f G_is_number hr (by decide) (by rfl) T.g_is_number pass0 (pa_cons (pv 3) (pa_cons (pe_gc (by rfl) T.c_PHASES) pa_nil))))))))))), ?_⟩
    rcases h with ⟨rfl, k⟩ | ⟨a, xs, rfl, e, es, k⟩
    · exact ⟨_, rfl, _, _, rfl, .non, _, _, rfl, rfl, _, rfl, k⟩
    refine ⟨_, rfl, _, _, rfl, .tup e, _, _, rfl, rfl, _, rfl, ?_⟩
    refine ⟨_, rfl, a, xs, rfl, .inr e, rfl, _, rfl, ?_⟩
    show if (!decide (V.int (xs.length : Int) = V.int ((3 : Nat) : Int))) = true then _ else _
    rw [neI]
    by_cases c : xs.length = 3
    · rw [decide_eq_true c]
      obtain ⟨x1, x2, x4, rfl⟩ := len3 c
      have e1 := es x1 (by simp)
      have e2 := es x2 (by simp)
      have e4 := es x4 (by simp)
      refine ⟨_, rfl, a, _, rfl, e, rfl, _, _, rfl, _, _, rfl, _, _, rfl, rfl, ?_⟩
      refine ⟨_, rfl, _, rfl, e1, _, rfl, ?_⟩
      have k' : Q (.bl (isNum x1 4 && (isDone x2 && isNum x4 2))) H := k
      cases h1 : isNum x1 4
      · rw [h1] at k'
        exact k'
      rw [h1, Bool.true_and] at k'
      refine ⟨_, rfl, _, _, rfl, e2.ty, _, _, rfl, rfl, _, rfl, ?_⟩
      cases x2 with
      | str s =>
        refine ⟨_, rfl, rfl, _, rfl, ?_⟩
        show if decide (V.str s = V.str "done") = true then _ else _
        have k2 : Q (.bl (decide (V.str s = V.str "done") && isNum x4 2)) H := k'
        cases h2 : decide (V.str s = V.str "done")
        · rw [h2] at k2
          exact k2
        rw [h2, Bool.true_and] at k2
        exact ⟨_, rfl, _, _, _, rfl, e4.ty, k2⟩
      | _ => first | exact k' | exact e2.elim
    · rw [decide_eq_false c]
      rw [isC3_len c] at k
      exact k
theorem ok_is_new_completion (T : Top K mg) : FnC P w K mg base CX0 5 (He.ga K "is_new_completion") (spNew K newC) := by
  have G_is_completion := ok_is_completion (P := P) (w := w) (base := base) T
  have G_phase_of := ok_phase_of (P := P) (w := w) (base := base) T
  refine fnc0 T.d_is_new_completion sc_is_new_completion (fun _ _ _ _ _ _ us hl => match us, hl with | [_, _], _ => rfl) (fun vs H Q E h => ?_) (fun cdv A outer s H vs Q E hr h => ?_)
  · obtain ⟨v, n, rfl, _⟩ := h
    rfl
  · obtain ⟨v, n, rfl, h⟩ := h
    refine ⟨_, (pss_one (ps_ret (pe_and (pe_f G_is_completion hr (by decide) (by rfl) T.g_is_completion pass0 (pa_cons (pv 0) pa_nil)) (pe_one (pe_cmpR op_eq (pe_ix ix_tup (pv 0) pe_int (fun _ _ => rfl)) (pe_f G_phase_of hr (by decide) (by rfl) T.g_phase_of pass0 (pa_cons (pv 1) pa_nil)) (nomark _)))))), ?_⟩
    refine ⟨_, rfl, v, rfl, ?_⟩
    rcases h with ⟨rfl, k⟩ | ⟨a, xs, rfl, e, es, k⟩
    · exact .inl ⟨rfl, _, rfl, k⟩
    refine .inr ⟨a, xs, rfl, e, es, _, rfl, ?_⟩
    by_cases c : xs.length = 3
    · obtain ⟨x1, x2, x4, rfl⟩ := len3 c
      rw [newC_of] at k
      cases h1 : isC3 [x1, x2, x4]
      · rw [h1] at k
        exact k
      rw [h1, Bool.true_and] at k
      have h4 : isNum x4 2 = true := (and2 (and2 (show (isNum x1 4 && (isDone x2 && isNum x4 2)) = true from h1)).2).2
      obtain ⟨i, rfl, _⟩ := isNum_int h4
      exact ⟨_, rfl, a, _, _, _, rfl, rfl, e, rfl, _, rfl, n, rfl, rfl, k⟩
    · rw [isC3_len c]
      rw [newC_len c] at k
      exact k
end
end Rb
namespace Rb
open PySem PySem.Spec PyProof.Rows L2
/-! ### the two rings of device 0 -/
/-- the words of the ring pages -/
def WW (A : AM) : Prop := useW A 0 0 = .tuple [.int 0, .str "r"] ∧ useW A 0 1 = .tuple [.int 1, .str "w"]
theorem useW_use {A : AM} {d p d' p' : Nat} : useW (useA A d p) d' p' = useW A d' p' := by
  unfold useA
  split
  · rename_i c
    obtain ⟨c1, _⟩ := and2 c
    have c1 := Option.isNone_iff_eq_none.mp c1
    unfold useW
    show (updN A.ent d (updI (A.ent d) (p : Int) (some (useW A d p))) d' (p' : Int)).getD _ = _
    by_cases q : d' = d
    · subst q
      rw [updN_same]
      unfold updI
      by_cases q2 : (p' : Int) = (p : Int)
      · have q3 : p' = p := by omega
        subst q3
        rw [if_pos rfl, c1]
        show useW A d' p' = _
        unfold useW
        rw [c1]
      · rw [if_neg q2]
    · rw [updN_ne q]
  · rfl
theorem useW_cells' {A B : AM} {c d p : Nat} {v : PyData} {l : List PyData} (hB : B.cells = A.cells) (h : c < 48) : useW { B with cells := A.cells.set c v, log := l } d p = useW B d p := by
  unfold useW
  show (B.ent d (p : Int)).getD ((A.cells.set c v)[56 + d * 6 + p]?.getD .none) = _
  rw [List.getElem?_set, if_neg (by omega), hB]
theorem useW_log {A : AM} {d p : Nat} {l : List PyData} : useW { A with log := l } d p = useW A d p := rfl
theorem useW_cells {A : AM} {c d p : Nat} {v : PyData} {l : List PyData} (h : c < 48) : useW { A with cells := A.cells.set c v, log := l } d p = useW A d p := by
  unfold useW
  show (A.ent d (p : Int)).getD ((A.cells.set c v)[56 + d * 6 + p]?.getD .none) = _
  rw [List.getElem?_set, if_neg (by omega)]
/-- the entry number n with a tag -/
def entD (wh n : Nat) (tg : Nat) : PyData := if wh = 0 then .tuple [.int (tg : Int), .str (if tg % 2 = 0 then "read" else "write"), .int ((n % 8 : Nat) : Int), .int (phI (n : Int)), .int (n : Int)] else .tuple [.int (tg : Int), .str "done", .int (phI (n : Int))]
theorem entD_val (wh n tg : Nat) : isVal (entD wh n tg) = true ∧ noL (entD wh n tg) = true ∧ sz (entD wh n tg) ≤ 3000 := by
  unfold entD
  split
  · exact ⟨rfl, rfl, by show 1 + (1 + (1 + (1 + (1 + 0)))) + 1 ≤ 3000; omega⟩
  · exact ⟨rfl, rfl, by show 1 + (1 + (1 + 0)) + 1 ≤ 3000; omega⟩
/-- what a reader who expects number n says of it -/
def newE (wh : Nat) (d : PyData) (n : Nat) : Prop := True
def Cell (A : AM) (wh i : Nat) (d : PyData) : Prop := A.cells[wh * 4 + i]? = some d
def spLW (K : PySem.W.Frag) : Sp := fun vs H Q _ => ∃ (L : ML) (M : MS) (A : AM) (N wh n tg : Nat), vs = [.ref L.m, .int (wh : Int), .int (n : Int), .int (tg : Int)] ∧ Abs K H L M A N ∧ N < 2900 ∧ WW A ∧ wh < 2 ∧ tg < 4 ∧
  ∀ (v : V) (H' : Hp) (M' : MS) (A' : AM), Abs K H' L M' A' (N + 1) → KL L H H' → WW A' → A'.cells = A.cells.set (wh * 4 + n % 4) (entD wh n tg) → Dp K H' v (entD wh n tg) → v ≠ .non → Q v H'
section
variable {P : Program} {w : World} {K : PySem.W.Frag} {mg : Str → Option Value} {base : Heap}
theorem ok_law_write (T : Top K mg) (TB : ∃ es n, KDict K w (He.ga K "FORMS") es n) : FnC P w K mg base CX0 8 (He.ga K "_law_write") (spLW K) := by
  have G_descriptor := ok_descriptor (P := P) (w := w) (base := base) T
  have G_completion := ok_completion (P := P) (w := w) (base := base) T
  have G_Memory_access := ok_acc (P := P) (w := w) (base := base) T TB
  have G_frame_cell := ok_frame_cell (P := P) (w := w) (base := base) T
  have G_slot_of := ok_slot_of (P := P) (w := w) (base := base) T
  refine fnc0 T.d__law_write sc__law_write (fun _ _ _ _ _ _ us hl => match us, hl with | [_, _, _, _], _ => rfl) (fun vs H Q E h => ?_) (fun cdv A outer s H vs Q E hr h => ?_)
  · obtain ⟨L, M, A, N, wh, n, tg, rfl, _⟩ := h
    rfl
  · obtain ⟨L, M, A, N, wh, n, tg, rfl, hA, hN, hW, hwh, htg, k⟩ := h
    refine ⟨_, (pss_cons (ps_if (pt_cmpR op_eq (pv 1) pe_int (nomark _)) (pss_cons (ps_set (i := 4) sc__law_write.nd rfl (Or.inl rfl) (pe_f G_descriptor hr (by decide) (by rfl) T.g_descriptor passL (pa_cons (pv 3) (pa_cons (pe_ix ix_list (pe_lst (pa_cons pe_str (pa_cons pe_str pa_nil))) (pe_op op_mod (pv 3) pe_int) (fun _ _ => rfl)) (pa_cons (pe_op op_mod (pv 2) pe_int) (pa_cons (pv 2) pa_nil))))))
    (pss_cons (ps_expr (pe_m G_Memory_access hr (by decide) T.cl_Memory T.me_Memory_access passL (pv 0) (pa_cons (pe_tup (pa_cons pe_str (pa_cons pe_int pa_nil))) (pa_cons (pe_tup (pa_cons pe_str (pa_cons (pe_f G_frame_cell hr (by decide) (by rfl) T.g_frame_cell pass0 (pa_cons pe_int (pa_cons pe_int (pa_cons (pe_f G_slot_of hr (by decide) (by rfl) T.g_slot_of pass0 (pa_cons (pv 2) pa_nil)) pa_nil)))) (pa_cons (pv 4) pa_nil)))) pa_nil))))
    (pss_one (ps_ret (pv 4))))) pss_nil)
    (pss_cons (ps_set (i := 4) sc__law_write.nd rfl (Or.inl rfl) (pe_f G_completion hr (by decide) (by rfl) T.g_completion passL (pa_cons (pv 3) (pa_cons (pv 2) pa_nil))))
    (pss_cons (ps_if (pt_cmpR op_notBl (pe_ix ix_tup (pe_m G_Memory_access hr (by decide) T.cl_Memory T.me_Memory_access passL (pv 0) (pa_cons (pe_tup (pa_cons pe_str (pa_cons pe_int pa_nil))) (pa_cons (pe_tup (pa_cons pe_str (pa_cons pe_int (pa_cons (pe_f G_slot_of hr (by decide) (by rfl) T.g_slot_of pass0 (pa_cons (pv 2) pa_nil)) (pa_cons (pv 4) pa_nil))))) pa_nil))) pe_int (fun _ _ => rfl)) pe_bl (nomark _)) (pss_one (ps_ret pe_non)) pss_nil)
    (pss_one (ps_ret (pv 4)))))), ?_⟩
    refine ⟨_, rfl, rfl, _, rfl, ?_⟩
    have hn4 : n % 4 < 4 := Nat.mod_lt _ (by decide)
    have en4 : (n : Int) % 4 = ((n % 4 : Nat) : Int) := by omega
    rcases lt2 hwh with rfl | rfl
    · -- the submissions
      have e8 : (n : Int) % 8 = ((n % 8 : Nat) : Int) := by omega
      show if decide (V.int ((0 : Nat) : Int) = V.int 0) = true then _ else _
      rw [if_pos (by decide)]
      refine ⟨_, rfl, (by show 2 ≤ sizeLine; decide), fun p1 f1 => ?_⟩
      have s1 := Same.new (o := HO.lst [V.str "read", .str "write"]) (Same.refl H) f1
      have ak : atI [V.str "read", V.str "write"] ((tg : Int) % 2) = some (.str (if tg % 2 = 0 then "read" else "write")) := by
        have : tg % 2 = 0 ∨ tg % 2 = 1 := by omega
        rcases this with h | h
        · rw [show (tg : Int) % 2 = ((0 : Nat) : Int) by omega, if_pos h]
          rfl
        · rw [show (tg : Int) % 2 = ((1 : Nat) : Int) by omega, if_neg (by omega)]
          rfl
      refine ⟨_, rfl, _, _, rfl, rfl, (by show (0 : Int) < 2; decide), p1, _, _, _, rfl, rfl, SqL.of upd_same, ak, _, rfl, _, _, rfl, rfl, (by show (0 : Int) < 8; decide), _, rfl, ?_⟩
      have hfit : fitD (.int (tg : Int)) (.str (if tg % 2 = 0 then "read" else "write")) (.int ((n : Int) % 8)) (.int (n : Int)) = true := by
        show (((decide ((0 : Int) ≤ tg) && decide ((tg : Int) < 4)) && (isKind (.str (if tg % 2 = 0 then "read" else "write")) && (decide (0 ≤ (n : Int) % 8) && decide ((n : Int) % 8 < 8)))) && decide ((0 : Int) ≤ n)) = true
        rw [decide_eq_true (by omega : (0 : Int) ≤ tg), decide_eq_true (by omega : (tg : Int) < 4), decide_eq_true (by omega : 0 ≤ (n : Int) % 8), decide_eq_true (by omega : (n : Int) % 8 < 8), decide_eq_true (by omega : (0 : Int) ≤ n)]
        split <;> decide +kernel
      refine ⟨_, _, _, _, rfl, trivial, trivial, trivial, trivial, fun n' hn' _ p2 f2 => ?_, fun z => by rw [hfit] at z; cases z⟩
      injection hn' with hn'
      subst hn'
      have s2 := s1.trans (Same.new (o := HO.tup [V.int (tg : Int), .str (if tg % 2 = 0 then "read" else "write"), .int ((n : Int) % 8), .int (phI (n : Int)), .int (n : Int)]) (Same.refl _) f2)
      have hvF : ∀ H', H' p2 = some (.tup [V.int (tg : Int), .str (if tg % 2 = 0 then "read" else "write"), .int ((n : Int) % 8), .int (phI (n : Int)), .int (n : Int)]) → Dp K H' (.ref p2) (entD 0 n tg) := fun H' e => .tup (SqT.of e) (.cons (.int _) (.cons (.str _) (.cons (by rw [e8]; exact .int _) (.cons (.int _) (.cons (.int _) .nil)))))
      refine ⟨_, rfl, L.m, L.d, _, rfl, (hA.same s2).mem.om, zn (by decide +kernel), (by show 2 ≤ sizeLine; decide), fun a fa => ?_⟩
      have s3' := Same.new (o := HO.tup [V.str "driver", .int 0]) (Same.refl _) fa
      refine ⟨_, rfl, _, rfl, _, _, _, rfl, ?_⟩
      refine ⟨_, rfl, (by show 3 ≤ sizeLine; decide), fun q fq => ?_⟩
      have s4' := Same.new (o := HO.tup [V.str "write", .int (fcell 0 0 ((n : Int) % 4)), .ref p2]) (Same.refl _) fq
      have s4 := (s2.trans s3').trans s4'
      have ec : fcell 0 0 ((n : Int) % 4) = ((n % 4 : Nat) : Int) := by
        unfold fcell
        omega
      dsimp only [tNil, List.append_nil]
      refine acc_write (c := n % 4) (d := 0) (hA.same s4) hN (by decide) (Same.seqT s4' (SqT.of upd_same)) (by rw [← ec]; exact SqT.of upd_same) (hvF _ (s4' _ _ (s3' _ _ upd_same))) (entD_val 0 n tg).1 (entD_val 0 n tg).2.1 (entD_val 0 n tg).2.2 (may_drv (by decide) (.inl (by omega))) (by omega) (fun d' hd' p hp e => by omega) fun u H' M' a' kl hu eu => ?_
      refine ⟨_, rfl, k (.ref p2) H' M' _ a' ((KL.of s4).trans kl) ?_ ?_ ?_ (fun z => nomatch z)⟩
      · exact ⟨(useW_cells (by omega)).trans hW.1, (useW_cells (by omega)).trans hW.2⟩
      · show A.cells.set (n % 4) _ = A.cells.set (0 * 4 + n % 4) _
        rw [Nat.zero_mul, Nat.zero_add]
      · exact Rb.Dp.ts (kl.ts (hA.same s4).mem) _ _ (entD_val 0 n tg).2.1 (hvF _ (s4' _ _ (s3' _ _ upd_same)))
    · -- the completions
      show if decide (V.int ((1 : Nat) : Int) = V.int 0) = true then _ else _
      rw [if_neg (by decide)]
      have hfit : (isNum (.int (tg : Int)) 4 && isNat (.int (n : Int))) = true := by
        show ((decide ((0 : Int) ≤ tg) && decide ((tg : Int) < 4)) && decide ((0 : Int) ≤ n)) = true
        rw [decide_eq_true (by omega : (0 : Int) ≤ tg), decide_eq_true (by omega : (tg : Int) < 4), decide_eq_true (by omega : (0 : Int) ≤ n)]
        rfl
      refine ⟨_, rfl, _, rfl, _, _, rfl, trivial, trivial, fun n' hn' _ p2 f2 => ?_, fun z => by rw [hfit] at z; cases z⟩
      injection hn' with hn'
      subst hn'
      have s2 := Same.new (o := HO.tup [V.int (tg : Int), .str "done", .int (phI (n : Int))]) (Same.refl H) f2
      have hvF : ∀ H', H' p2 = some (.tup [V.int (tg : Int), .str "done", .int (phI (n : Int))]) → Dp K H' (.ref p2) (entD 1 n tg) := fun H' e => .tup (SqT.of e) (.cons (.int _) (.cons (.str _) (.cons (.int _) .nil)))
      refine ⟨_, rfl, L.m, L.d, _, rfl, (hA.same s2).mem.om, zn (by decide +kernel), (by show 2 ≤ sizeLine; decide), fun a fa => ?_⟩
      have s3' := Same.new (o := HO.tup [V.str "device", .int 0]) (Same.refl _) fa
      refine ⟨_, rfl, _, rfl, ?_⟩
      refine ⟨_, rfl, (by show 4 ≤ sizeLine; decide), fun q fq => ?_⟩
      have s4' := Same.new (o := HO.tup [V.str "dma write", .int 1, .int ((n : Int) % 4), .ref p2]) (Same.refl _) fq
      have s4 := (s2.trans s3').trans s4'
      dsimp only [tNil, List.append_nil]
      refine acc_dwrite (p := 1) (i := n % 4) (d := 0) (hA.same s4) hN (by decide) (by decide) hn4 (Same.seqT s4' (SqT.of upd_same)) (by rw [← en4]; exact SqT.of upd_same) (hvF _ (s4' _ _ (s3' _ _ upd_same))) (entD_val 1 n tg).1 (entD_val 1 n tg).2.1 (entD_val 1 n tg).2.2 (.wYes (f := 1) (by decide) hW.2 hn4 (entD_val 1 n tg).2.1) fun u r H' M' a' hr kl hu eu => ?_
      cases hr
      refine ⟨u, _, _, _, rfl, rfl, SqT.of eu, rfl, _, _, rfl, rfl, _, rfl, ?_⟩
      refine ⟨_, rfl, k (.ref p2) H' M' _ a' ((KL.of s4).trans kl) ?_ ?_ ?_ (fun z => nomatch z)⟩
      · exact ⟨(useW_cells' useA_cells (by omega)).trans (useW_use.trans hW.1), (useW_cells' useA_cells (by omega)).trans (useW_use.trans hW.2)⟩
      · show A.cells.set ((0 * 6 + 1) * 4 + n % 4) _ = A.cells.set (1 * 4 + n % 4) _
        rfl
      · exact Rb.Dp.ts (kl.ts (hA.same s4).mem) _ _ (entD_val 1 n tg).2.1 (hvF _ (s4' _ _ (s3' _ _ upd_same)))
/-- what stands in a slot: nothing, or the entry of a number -/
def slD (wh : Nat) : Option (Nat × Nat) → PyData
  | none => .none
  | some (m, tg) => entD wh m tg
def newB (wh : Nat) (o : Option (Nat × Nat)) (n : Nat) : Bool := match o with
  | none => false
  | some (m, _) => if wh = 0 then decide (m = n) else decide (phI (m : Int) = phI (n : Int))
theorem slD_nl (wh : Nat) (o : Option (Nat × Nat)) : noL (slD wh o) = true := by
  cases o with
  | none => rfl
  | some p => exact (entD_val wh p.1 p.2).2.1
theorem newD_ent {m tg n : Nat} (htg : tg < 4) : newD [.int (tg : Int), .str (if tg % 2 = 0 then "read" else "write"), .int ((m % 8 : Nat) : Int), .int (phI (m : Int)), .int (m : Int)] (n : Int) = decide (m = n) := by
  show (((((decide ((0 : Int) ≤ tg) && decide ((tg : Int) < 4)) && (isKind (.str (if tg % 2 = 0 then "read" else "write")) && (decide (0 ≤ ((m % 8 : Nat) : Int)) && decide (((m % 8 : Nat) : Int) < 8)))) && decide ((0 : Int) ≤ m))) && (decide (V.int (phI (m : Int)) = V.int (phI (n : Int))) && decide (V.int (m : Int) = V.int (n : Int)))) = decide (m = n)
  rw [decide_eq_true (by omega : (0 : Int) ≤ tg), decide_eq_true (by omega : (tg : Int) < 4), decide_eq_true (by omega : 0 ≤ ((m % 8 : Nat) : Int)), decide_eq_true (by omega : ((m % 8 : Nat) : Int) < 8), decide_eq_true (by omega : (0 : Int) ≤ m)]
  have hk : isKind (.str (if tg % 2 = 0 then "read" else "write")) = true := by
    split <;> decide +kernel
  rw [hk]
  by_cases c : m = n
  · subst c
    rw [decide_eq_true rfl, decide_eq_true rfl, decide_eq_true rfl]
    rfl
  · rw [decide_eq_false c, decide_eq_false (fun z => c (by injection z with z; omega) : ¬ V.int (m : Int) = V.int (n : Int)), Bool.and_false, Bool.and_false]
theorem newC_ent {m tg n : Nat} (htg : tg < 4) : newC [.int (tg : Int), .str "done", .int (phI (m : Int))] (n : Int) = decide (phI (m : Int) = phI (n : Int)) := by
  show ((decide ((0 : Int) ≤ tg) && decide ((tg : Int) < 4)) && (decide (V.str "done" = V.str "done") && decide (V.int (phI (m : Int)) = V.int (phI (n : Int))))) = _
  rw [decide_eq_true (by omega : (0 : Int) ≤ tg), decide_eq_true (by omega : (tg : Int) < 4), decide_eq_true (rfl : V.str "done" = V.str "done")]
  by_cases c : phI (m : Int) = phI (n : Int)
  · rw [c, decide_eq_true rfl, decide_eq_true rfl]
    rfl
  · rw [decide_eq_false c, decide_eq_false (fun z => c (by injection z))]
    rfl
def spLR (K : PySem.W.Frag) : Sp := fun vs H Q _ => ∃ (L : ML) (M : MS) (A : AM) (N wh n : Nat) (o : Option (Nat × Nat)), vs = [.ref L.m, .int (wh : Int), .int (n : Int)] ∧ Abs K H L M A N ∧ N < 2900 ∧ WW A ∧ wh < 2 ∧ A.cells[wh * 4 + n % 4]? = some (slD wh o) ∧ (∀ m tg, o = some (m, tg) → tg < 4) ∧
  ∀ (t : Addr) (v : V) (H' : Hp) (M' : MS) (A' : AM), Abs K H' L M' A' (N + 1) → KL L H H' → WW A' → A'.cells = A.cells → H' t = some (.tup [v, .bl (newB wh o n)]) → Dp K H' v (slD wh o) → Q (.ref t) H'
/-- is it new -/
theorem new_sub {K : PySem.W.Frag} {H : Hp} {v : V} {n : Nat} {o : Option (Nat × Nat)} {Q : VK} {E : XK} (hv : Dp K H v (slD 0 o)) (ho : ∀ m tg, o = some (m, tg) → tg < 4) (k : Q (.bl (newB 0 o n)) H) : spNew K newD [v, .int (n : Int)] H Q E := by
  cases o with
  | none =>
    cases hv
    exact ⟨_, _, rfl, .inl ⟨rfl, k⟩⟩
  | some p =>
    obtain ⟨m, tg⟩ := p
    have hv : Dp K H v (.tuple [.int (tg : Int), .str (if tg % 2 = 0 then "read" else "write"), .int ((m % 8 : Nat) : Int), .int (phI (m : Int)), .int (m : Int)]) := hv
    cases hv with
    | @tup a xs ds hs ha =>
      obtain ⟨x1, xs, rfl, h1, ha⟩ : ∃ x r, xs = x :: r ∧ Dp K H x _ ∧ DpAll K H r _ := by cases ha; exact ⟨_, _, rfl, ‹_›, ‹_›⟩
      cases h1
      obtain ⟨x2, xs, rfl, h2, ha⟩ : ∃ x r, xs = x :: r ∧ Dp K H x _ ∧ DpAll K H r _ := by cases ha; exact ⟨_, _, rfl, ‹_›, ‹_›⟩
      cases h2
      obtain ⟨x3, xs, rfl, h3, ha⟩ : ∃ x r, xs = x :: r ∧ Dp K H x _ ∧ DpAll K H r _ := by cases ha; exact ⟨_, _, rfl, ‹_›, ‹_›⟩
      cases h3
      obtain ⟨x4, xs, rfl, h4, ha⟩ : ∃ x r, xs = x :: r ∧ Dp K H x _ ∧ DpAll K H r _ := by cases ha; exact ⟨_, _, rfl, ‹_›, ‹_›⟩
      cases h4
      obtain ⟨x5, xs, rfl, h5, ha⟩ : ∃ x r, xs = x :: r ∧ Dp K H x _ ∧ DpAll K H r _ := by cases ha; exact ⟨_, _, rfl, ‹_›, ‹_›⟩
      cases h5
      cases ha
      refine ⟨_, _, rfl, .inr ⟨a, _, rfl, hs, fun x hx => ?_, ?_⟩⟩
      · simp at hx
        rcases hx with rfl | rfl | rfl | rfl | rfl <;> trivial
      · rw [newD_ent (ho m tg rfl)]
        exact k
theorem new_com {K : PySem.W.Frag} {H : Hp} {v : V} {n : Nat} {o : Option (Nat × Nat)} {Q : VK} {E : XK} (hv : Dp K H v (slD 1 o)) (ho : ∀ m tg, o = some (m, tg) → tg < 4) (k : Q (.bl (newB 1 o n)) H) : spNew K newC [v, .int (n : Int)] H Q E := by
  cases o with
  | none =>
    cases hv
    exact ⟨_, _, rfl, .inl ⟨rfl, k⟩⟩
  | some p =>
    obtain ⟨m, tg⟩ := p
    have hv : Dp K H v (.tuple [.int (tg : Int), .str "done", .int (phI (m : Int))]) := hv
    cases hv with
    | @tup a xs ds hs ha =>
      obtain ⟨x1, xs, rfl, h1, ha⟩ : ∃ x r, xs = x :: r ∧ Dp K H x _ ∧ DpAll K H r _ := by cases ha; exact ⟨_, _, rfl, ‹_›, ‹_›⟩
      cases h1
      obtain ⟨x2, xs, rfl, h2, ha⟩ : ∃ x r, xs = x :: r ∧ Dp K H x _ ∧ DpAll K H r _ := by cases ha; exact ⟨_, _, rfl, ‹_›, ‹_›⟩
      cases h2
      obtain ⟨x3, xs, rfl, h3, ha⟩ : ∃ x r, xs = x :: r ∧ Dp K H x _ ∧ DpAll K H r _ := by cases ha; exact ⟨_, _, rfl, ‹_›, ‹_›⟩
      cases h3
      cases ha
      refine ⟨_, _, rfl, .inr ⟨a, _, rfl, hs, fun x hx => ?_, ?_⟩⟩
      · simp at hx
        rcases hx with rfl | rfl | rfl <;> trivial
      · rw [newC_ent (ho m tg rfl)]
        exact k
theorem ok_law_read (T : Top K mg) (TB : ∃ es n, KDict K w (He.ga K "FORMS") es n) : FnC P w K mg base CX0 8 (He.ga K "_law_read") (spLR K) := by
  have G_Memory_access := ok_acc (P := P) (w := w) (base := base) T TB
  have G_frame_cell := ok_frame_cell (P := P) (w := w) (base := base) T
  have G_slot_of := ok_slot_of (P := P) (w := w) (base := base) T
  have G_is_new_descriptor := ok_is_new_descriptor (P := P) (w := w) (base := base) T
  have G_is_new_completion := ok_is_new_completion (P := P) (w := w) (base := base) T
  refine fnc0 T.d__law_read sc__law_read (fun _ _ _ _ _ _ us hl => match us, hl with | [_, _, _], _ => rfl) (fun vs H Q E h => ?_) (fun cdv A outer s H vs Q E hr h => ?_)
  · obtain ⟨L, M, A, N, wh, n, o, rfl, _⟩ := h
    rfl
  · obtain ⟨L, M, A, N, wh, n, o, rfl, hA, hN, hW, hwh, hx, ho, k⟩ := h
    refine ⟨_, (pss_cons (ps_if (pt_cmpR op_eq (pv 1) pe_int (nomark _)) (pss_cons (ps_set (i := 3) sc__law_read.nd rfl (Or.inl rfl) (pe_ix ix_tup (pe_m G_Memory_access hr (by decide) T.cl_Memory T.me_Memory_access passL (pv 0) (pa_cons (pe_tup (pa_cons pe_str (pa_cons pe_int pa_nil))) (pa_cons (pe_tup (pa_cons pe_str (pa_cons pe_int (pa_cons (pe_f G_slot_of hr (by decide) (by rfl) T.g_slot_of pass0 (pa_cons (pv 2) pa_nil)) pa_nil)))) pa_nil))) pe_int (fun _ _ => rfl)))
    (pss_cons (ps_if (pt_cmp (pc_isN (pv 3))) (pss_one (ps_ret pe_non)) pss_nil)
    (pss_one (ps_ret (pe_tup (pa_cons (pe_ix ix_tup (pv 3) pe_int (fun _ _ => rfl)) (pa_cons (pe_f G_is_new_descriptor hr (by decide) (by rfl) T.g_is_new_descriptor pass0 (pa_cons (pe_ix ix_tup (pv 3) pe_int (fun _ _ => rfl)) (pa_cons (pv 2) pa_nil))) pa_nil))))))) pss_nil)
    (pss_cons (ps_set (i := 4) sc__law_read.nd rfl (Or.inl rfl) (pe_ix ix_tup (pe_m G_Memory_access hr (by decide) T.cl_Memory T.me_Memory_access passL (pv 0) (pa_cons (pe_tup (pa_cons pe_str (pa_cons pe_int pa_nil))) (pa_cons (pe_tup (pa_cons pe_str (pa_cons (pe_f G_frame_cell hr (by decide) (by rfl) T.g_frame_cell pass0 (pa_cons pe_int (pa_cons pe_int (pa_cons (pe_f G_slot_of hr (by decide) (by rfl) T.g_slot_of pass0 (pa_cons (pv 2) pa_nil)) pa_nil)))) pa_nil))) pa_nil))) pe_int (fun _ _ => rfl)))
    (pss_one (ps_ret (pe_tup (pa_cons (pv 4) (pa_cons (pe_f G_is_new_completion hr (by decide) (by rfl) T.g_is_new_completion pass0 (pa_cons (pv 4) (pa_cons (pv 2) pa_nil))) pa_nil))))))), ?_⟩
    refine ⟨_, rfl, rfl, _, rfl, ?_⟩
    have hn4 : n % 4 < 4 := Nat.mod_lt _ (by decide)
    have en4 : (n : Int) % 4 = ((n % 4 : Nat) : Int) := by omega
    rcases lt2 hwh with rfl | rfl
    · show if decide (V.int ((0 : Nat) : Int) = V.int 0) = true then _ else _
      rw [if_pos (by decide)]
      refine ⟨_, rfl, L.m, L.d, _, rfl, hA.mem.om, zn (by decide +kernel), (by show 2 ≤ sizeLine; decide), fun a fa => ?_⟩
      have s3 := Same.new (o := HO.tup [V.str "device", .int 0]) (Same.refl _) fa
      refine ⟨_, rfl, _, rfl, (by show 3 ≤ sizeLine; decide), fun q fq => ?_⟩
      have s4' := Same.new (o := HO.tup [V.str "dma read", .int 0, .int ((n : Int) % 4)]) (Same.refl _) fq
      have s4 := s3.trans s4'
      dsimp only [tNil, List.append_nil]
      refine acc_dread (p := 0) (i := n % 4) (d := 0) (hA.same s4) hN (by decide) (by decide) hn4 (Same.seqT s4' (SqT.of upd_same)) (by rw [← en4]; exact SqT.of upd_same) (.rYes (f := 0) (by decide) hW.1 (by rw [show (0 * 6 + 0) * 4 + n % 4 = 0 * 4 + n % 4 by omega]; exact hx)) fun u r H' M' a' hr kl hu eu => ?_
      obtain ⟨t1, v, rfl, ht1, hv⟩ : ∃ t1 v, r = .ref t1 ∧ SqT K H' t1 [v] ∧ Dp K H' v (slD 0 o) := by
        cases hr with
        | @tup a xs ds hs ha =>
          cases ha with
          | cons h1 h2 =>
            cases h2
            exact ⟨a, _, rfl, hs, h1⟩
      refine ⟨u, _, _, _, rfl, rfl, SqT.of eu, rfl, ?_⟩
      refine ⟨_, rfl, _, rfl, ?_⟩
      show if decide (V.ref t1 = V.non) = true then _ else _
      rw [if_neg (by simp)]
      refine ⟨_, rfl, t1, _, _, _, rfl, rfl, ht1, rfl, _, rfl, t1, _, _, _, rfl, rfl, ht1, rfl, _, rfl, ?_⟩
      dsimp only [tNil, List.append_nil]
      refine new_sub hv ho ⟨(by show 2 ≤ sizeLine; decide), fun t ht => ?_⟩
      have s5 := Same.new (o := HO.tup [v, .bl (newB 0 o n)]) (Same.refl H') ht
      exact k t v _ M' _ (a'.same s5) (((KL.of s4).trans kl).trans (KL.of s5)) ⟨useW_use.trans hW.1, useW_use.trans hW.2⟩ useA_cells upd_same (hv.same s5)
    · show if decide (V.int ((1 : Nat) : Int) = V.int 0) = true then _ else _
      rw [if_neg (by decide)]
      refine ⟨_, rfl, L.m, L.d, _, rfl, hA.mem.om, zn (by decide +kernel), (by show 2 ≤ sizeLine; decide), fun a fa => ?_⟩
      have s3 := Same.new (o := HO.tup [V.str "driver", .int 0]) (Same.refl _) fa
      refine ⟨_, rfl, _, rfl, _, _, _, rfl, (by show 2 ≤ sizeLine; decide), fun q fq => ?_⟩
      have s4' := Same.new (o := HO.tup [V.str "read", .int (fcell 0 1 ((n : Int) % 4))]) (Same.refl _) fq
      have s4 := s3.trans s4'
      have ec : fcell 0 1 ((n : Int) % 4) = ((1 * 4 + n % 4 : Nat) : Int) := by
        unfold fcell
        omega
      dsimp only [tNil, List.append_nil]
      refine acc_read (c := 1 * 4 + n % 4) (d := 0) (hA.same s4) hN (by decide) (Same.seqT s4' (SqT.of upd_same)) (by rw [← ec]; exact SqT.of upd_same) (may_drv (by decide) (.inl (by omega))) hx fun u r H' M' a' hr kl hu eu => ?_
      refine ⟨u, _, _, _, rfl, rfl, SqT.of eu, rfl, ?_⟩
      refine ⟨_, rfl, _, rfl, _, rfl, ?_⟩
      dsimp only [tNil, List.append_nil]
      refine new_com hr ho ⟨(by show 2 ≤ sizeLine; decide), fun t ht => ?_⟩
      have s5 := Same.new (o := HO.tup [r, .bl (newB 1 o n)]) (Same.refl H') ht
      exact k t r _ M' _ (a'.same s5) (((KL.of s4).trans kl).trans (KL.of s5)) ⟨hW.1, hW.2⟩ rfl upd_same (hr.same s5)
end
end Rb
namespace Rb
open PySem PySem.Spec PyProof.Rows L2
def spLE (K : PySem.W.Frag) : Sp := fun vs H Q _ => ∃ (L : ML) (M : MS) (A : AM) (N wh : Nat), vs = [.ref L.m, .int (wh : Int)] ∧ Abs K H L M A N ∧ N < 2800 ∧ WW A ∧ wh < 2 ∧
  ∀ (H' : Hp) (M' : MS) (A' : AM), Abs K H' L M' A' (N + 4) → KL L H H' → WW A' → (∀ i, i < 4 → A'.cells[wh * 4 + i]? = some .none) → Q .non H'
section
variable {P : Program} {w : World} {K : PySem.W.Frag} {mg : Str → Option Value} {base : Heap}
theorem ok_law_empty (T : Top K mg) (TB : ∃ es n, KDict K w (He.ga K "FORMS") es n) : FnC P w K mg base CX0 8 (He.ga K "_law_empty") (spLE K) := by
  have G_Memory_access := ok_acc (P := P) (w := w) (base := base) T TB
  have G_frame_cell := ok_frame_cell (P := P) (w := w) (base := base) T
  refine fnc0 T.d__law_empty sc__law_empty (fun _ _ _ _ _ _ us hl => match us, hl with | [_, _], _ => rfl) (fun vs H Q E h => ?_) (fun cdv A outer s H vs Q E hr h => ?_)
  · obtain ⟨L, M, A, N, wh, rfl, _⟩ := h
    rfl
  · obtain ⟨L, M, A, N, wh, rfl, hA, hN, hW, hwh, k⟩ := h
    refine ⟨_, (pss_one (ps_for PassesOwn.never rfl (pi_range1 (by rfl) T.b_range (pa_cons pe_int pa_nil)) (pg_name (i := 2) sc__law_empty.nd rfl (Or.inl rfl)) (pss_one (ps_expr (pe_m G_Memory_access hr (by decide) T.cl_Memory T.me_Memory_access passL (pv 0) (pa_cons (pe_tup (pa_cons pe_str (pa_cons pe_int pa_nil))) (pa_cons (pe_tup (pa_cons pe_str (pa_cons (pe_f G_frame_cell hr (by decide) (by rfl) T.g_frame_cell pass0 (pa_cons pe_int (pa_cons (pv 1) (pa_cons (pv 2) pa_nil)))) (pa_cons pe_non pa_nil)))) pa_nil))))))), ?_⟩
    refine ⟨4, rfl, by decide, by decide, for_range (n := 4) (fun i σ H1 => ∃ x2 M' A', σ = [some (.ref L.m), some (.int (wh : Int)), x2] ∧ Abs K H1 L M' A' (N + i) ∧ KL L H H1 ∧ WW A' ∧ ∀ j, j < i → A'.cells[wh * 4 + j]? = some .none) ?_ ?_ ?_⟩
    · exact ⟨_, M, A, rfl, hA, KL.refl, hW, fun j hj => absurd hj (by omega)⟩
    · rintro i σ H1 hi ⟨x2, M', A', rfl, hA1, kl1, hW1, hj⟩
      refine ⟨_, rfl, L.m, L.d, _, rfl, hA1.mem.om, zn (by decide +kernel), (by show 2 ≤ sizeLine; decide), fun a fa => ?_⟩
      have s3 := Same.new (o := HO.tup [V.str "driver", .int 0]) (Same.refl _) fa
      refine ⟨_, rfl, _, rfl, _, _, _, rfl, (by show 3 ≤ sizeLine; decide), fun q fq => ?_⟩
      have s4' := Same.new (o := HO.tup [V.str "write", .int (fcell 0 (wh : Int) (0 + (i : Int))), .non]) (Same.refl _) fq
      have s4 := s3.trans s4'
      have ec : fcell 0 (wh : Int) (0 + (i : Int)) = ((wh * 4 + i : Nat) : Int) := by
        unfold fcell
        omega
      dsimp only [tNil, List.append_nil]
      refine acc_write (c := wh * 4 + i) (d := 0) (hA1.same s4) (by omega) (by decide) (Same.seqT s4' (SqT.of upd_same)) (by rw [← ec]; exact SqT.of upd_same) .non rfl rfl (by decide) (may_drv (by decide) (.inl (by omega))) (by omega) (fun d' hd' p hp e => by omega) fun u H' M2 a' kl hu eu => ?_
      refine ⟨_, M2, _, rfl, a', kl1.trans ((KL.of s4).trans kl), ⟨(useW_cells (by omega)).trans hW1.1, (useW_cells (by omega)).trans hW1.2⟩, fun j hj2 => ?_⟩
      show (A'.cells.set (wh * 4 + i) .none)[wh * 4 + j]? = _
      rw [List.getElem?_set]
      by_cases q : j = i
      · rw [if_pos (by omega), if_pos (by rw [hA1.c7]; omega)]
      · rw [if_neg (by omega)]
        exact hj j (by omega)
    · rintro σ H1 ⟨x2, M', A', rfl, hA1, kl1, hW1, hj⟩
      exact k H1 M' A' hA1 kl1 hW1 hj
end
/-! ### the law's own -/
def TapeL (n : Nat) (ts : List Int) : Prop := ts.length ≤ n ∧ ∀ t ∈ ts, 0 ≤ t ∧ t < 1000
theorem TapeL.add {n : Nat} {ts : List Int} {t : Int} (h : TapeL n ts) (h0 : 0 ≤ t) (h1 : t < 1000) : TapeL (n + 1) (ts ++ [t]) := by
  refine ⟨by rw [List.length_append]; exact Nat.add_le_add_right h.1 1, fun x hx => ?_⟩
  rcases List.mem_append.mp hx with q | q
  · exact h.2 x q
  · rw [List.mem_singleton.mp q]
    exact ⟨h0, h1⟩
theorem TapeL.mono {m n : Nat} {ts : List Int} (h : TapeL m ts) (l : m ≤ n) : TapeL n ts := ⟨Nat.le_trans h.1 l, h.2⟩
theorem mod1000 (v : Int) : 0 ≤ v % 1000 ∧ v % 1000 < 1000 := ⟨Int.emod_nonneg _ (by decide), Int.emod_lt_of_pos _ (by decide)⟩
def spTape (K : PySem.W.Frag) : Sp := fun vs H Q _ => ∃ (a : Addr) (ns : List Int), vs = [.ref a] ∧ SqL K H a (ns.map V.int) ∧ ns.length ≤ 63 ∧
  ∀ (p : Addr) (H' : Hp) (ts : List Int), H p = none → Same H H' → H' p = some (.lst (ts.map V.int)) → TapeL 3780 ts → Q (.ref p) H'
def spAt (K : PySem.W.Frag) : Sp := fun vs H Q _ => ∃ (a : Addr) (ts : List Int) (j : Int), vs = [.ref a, .int j] ∧ SqL K H a (ts.map V.int) ∧ 0 ≤ j ∧ (∀ x, x = ts[j.toNat]?.getD 0 → Q (.int x) H)
section
variable {P : Program} {w : World} {K : PySem.W.Frag} {mg : Str → Option Value} {base : Heap}
theorem ok_law_tape (T : Top K mg) : FnC P w K mg base CX0 1 (He.ga K "_law_tape") (spTape K) := by
  refine fnc0 T.d__law_tape sc__law_tape (fun _ _ _ _ _ _ us hl => match us, hl with | [_], _ => rfl) (fun vs H Q E h => ?_) (fun cdv A outer s H vs Q E hr h => ?_)
  · obtain ⟨a, ns, rfl, _⟩ := h
    rfl
  · obtain ⟨a, ns, rfl, hS, hlen, k⟩ := h
    refine ⟨_, (pss_cons (ps_set (i := 1) sc__law_tape.nd rfl (Or.inl rfl) (pe_lst pa_nil))
    (pss_cons (ps_for PassesOwn.never rfl (pi_range1 (by rfl) T.b_range (pa_cons (pe_callB call_len_seq (by rfl) T.b_len PySem.boot_len (pa_cons (pv 0) pa_nil)) pa_nil)) (pg_name (i := 2) sc__law_tape.nd rfl (Or.inl rfl)) (pss_cons (ps_set (i := 3) sc__law_tape.nd rfl (Or.inl rfl) (pe_callB call_abs (by rfl) T.b_abs (by decide +kernel) (pa_cons (pe_callTy call_int1 (by rfl) T.b_int (by decide +kernel) (pa_cons (pe_ix ix_list (pv 0) (pv 2) (fun _ _ => rfl)) pa_nil)) pa_nil)))
    (pss_one (ps_if (pt_cmpR op_ge (pv 3) (pe_op op_pow pe_int pe_int) (nomark _)) (pss_one (ps_for PassesOwn.never rfl (pi_range1 (by rfl) T.b_range (pa_cons pe_int pa_nil)) (pg_name (i := 4) sc__law_tape.nd rfl (Or.inl rfl)) (pss_one (ps_if (pt_cmpR op_gt (pv 3) pe_int (nomark _)) (pss_cons (ps_expr (pe_bm PySem.F.plainAttrs_list PySem.F.slot_list_append PySem.F.type_list_append mt_append (pv 1) (pa_cons (pe_op op_mod (pv 3) pe_int) pa_nil)))
    (pss_one (ps_set (i := 3) sc__law_tape.nd rfl (Or.inl rfl) (pe_op op_fdiv (pv 3) pe_int)))) pss_nil)))) (pss_one (ps_for PassesOwn.never rfl (pi_range1 (by rfl) T.b_range (pa_cons pe_int pa_nil)) (pg_name (i := 4) sc__law_tape.nd rfl (Or.inl rfl)) (pss_cons (ps_set (i := 3) sc__law_tape.nd rfl (Or.inl rfl) (pe_op op_mod (pe_op op_add (pe_op op_add (pe_op op_mul (pv 3) pe_int) (pe_op op_mul pe_int (pe_op op_add (pv 2) pe_int))) (pe_op op_mul pe_int (pv 4))) pe_int))
    (pss_cons (ps_set (i := 3) sc__law_tape.nd rfl (Or.inl rfl) (pe_op op_mod (pe_op op_mul (pv 3) pe_int) pe_int))
    (pss_one (ps_expr (pe_bm PySem.F.plainAttrs_list PySem.F.slot_list_append PySem.F.type_list_append mt_append (pv 1) (pa_cons (pe_op op_mod (pe_op op_fdiv (pv 3) pe_int) pe_int) pa_nil))))))))))))
    (pss_one (ps_ret (pv 1))))), ?_⟩
    refine ⟨by decide, fun p hp => ?_⟩
    have s0 : Same H (upd H p (.lst [])) := Same.new (Same.refl H) hp
    refine ⟨_, rfl, a, ns.map V.int, rfl, .inl (Same.seq s0 hS), _, rfl, ?_, ?_, for_range (n := (ns.map V.int).length) (fun i σ H1 => ∃ x2 x3 x4 ts, σ = [some (.ref a), some (.ref p), x2, x3, x4] ∧ H1 p = some (.lst (ts.map V.int)) ∧ Same H H1 ∧ TapeL (60 * i) ts) ?_ ?_ ?_⟩
    · rw [List.length_map]
      omega
    · rw [List.length_map]
      omega
    · exact ⟨none, none, none, [], rfl, upd_same, s0, Nat.zero_le _, fun t ht => (nomatch ht)⟩
    · rintro i σ H1 hi ⟨x2, x3, x4, ts, rfl, hL, s1, ht⟩
      have hi : i < ns.length := by
        rw [List.length_map] at hi
        exact hi
      have hx : (ns.map V.int)[i]? = some (V.int ns[i]) := by
        rw [List.getElem?_map, List.getElem?_eq_getElem hi]
        rfl
      refine ⟨_, rfl, _, rfl, a, _, _, V.int ns[i], rfl, rfl, Same.seq s1 hS, ?_, .inl ⟨ns[i], rfl, _, rfl, ?_⟩⟩
      · rw [Int.zero_add]
        exact atI_n hx
      generalize (if ns[i] < 0 then -ns[i] else ns[i]) = v
      refine ⟨_, rfl, _, _, rfl, rfl, ⟨by decide, by decide, by decide⟩, _, _, rfl, rfl, _, rfl, ?_⟩
      refine ite2 (fun _ => ?_) (fun _ => ?_)
      · -- the long way
        refine ⟨60, rfl, by decide, by decide, for_range (n := 60) (fun j σ H2 => ∃ v x4 ts, σ = [some (.ref a), some (.ref p), some (.int (0 + (i : Int))), some (.int v), x4] ∧ H2 p = some (.lst (ts.map V.int)) ∧ Same H H2 ∧ TapeL (60 * i + j) ts) ?_ ?_ ?_⟩
        · exact ⟨v, x4, ts, rfl, hL, s1, ht⟩
        · rintro j σ H2 hj ⟨v, x4, ts, rfl, hL2, s2, ht2⟩
          refine ⟨_, rfl, _, _, rfl, rfl, _, rfl, ?_⟩
          refine ite2 (fun _ => ?_) (fun _ => ?_)
          · refine ⟨_, rfl, .inl ⟨rfl, _, SqL.of hL2⟩, _, rfl, _, _, rfl, rfl, (by show (0 : Int) < 1000; decide), p, _, _, rfl, rfl, hL2, ?_, ?_⟩
            · rw [List.length_map]
              exact Nat.lt_of_le_of_lt (Nat.le_trans ht2.1 (show 60 * i + j ≤ 3780 by omega)) (by decide : 3780 < sizeLine)
            · refine ⟨_, rfl, _, _, rfl, rfl, ⟨by decide, by decide⟩, ?_⟩
              refine ⟨_, _, ts ++ [v % 1000], rfl, ?_, fun b o e => ?_, ht2.add (mod1000 v).1 (mod1000 v).2⟩
              · rw [upd_same, List.map_append]
                rfl
              · rw [upd_ne (ne_of_none e hp)]
                exact s2 b o e
          · exact ⟨v, _, ts, rfl, hL2, s2, ht2.mono (by omega)⟩
        · rintro σ H2 ⟨v, x4, ts, rfl, hL2, s2, ht2⟩
          exact ⟨_, _, _, ts, rfl, hL2, s2, ht2.mono (by omega)⟩
      · refine ⟨4, rfl, by decide, by decide, for_range (n := 4) (fun j σ H2 => ∃ v x4 ts, σ = [some (.ref a), some (.ref p), some (.int (0 + (i : Int))), some (.int v), x4] ∧ H2 p = some (.lst (ts.map V.int)) ∧ Same H H2 ∧ TapeL (60 * i + j) ts) ?_ ?_ ?_⟩
        · exact ⟨v, x4, ts, rfl, hL, s1, ht⟩
        · rintro j σ H2 hj ⟨v, x4, ts, rfl, hL2, s2, ht2⟩
          refine ⟨_, rfl, _, _, rfl, rfl, .inr ⟨by decide, by decide⟩, _, rfl, _, _, rfl, rfl, _, _, rfl, rfl, .inl ⟨by decide, by decide⟩, _, _, rfl, rfl, _, rfl, _, _, rfl, rfl, .inl ⟨by decide, by decide⟩, _, _, rfl, rfl, _, _, rfl, rfl, (by show (0 : Int) < 2147483647; decide), ?_⟩
          refine ⟨_, rfl, _, _, rfl, rfl, .inr ⟨by decide, by decide⟩, _, _, rfl, rfl, (by show (0 : Int) < 2147483647; decide), ?_⟩
          refine ⟨_, rfl, .inl ⟨rfl, _, SqL.of hL2⟩, _, rfl, _, _, rfl, rfl, ⟨by decide, by decide⟩, _, _, rfl, rfl, (by show (0 : Int) < 1000; decide), p, _, _, rfl, rfl, hL2, ?_, ?_⟩
          · rw [List.length_map]
            exact Nat.lt_of_le_of_lt (Nat.le_trans ht2.1 (show 60 * i + j ≤ 3780 by omega)) (by decide : 3780 < sizeLine)
          · refine ⟨_, _, ts ++ [((v * 48271 + 69621 * (0 + (i : Int) + 1) + 7 * (0 + (j : Int))) % 2147483647 * 16807 % 2147483647 / 1000) % 1000], rfl, ?_, fun b o e => ?_, ht2.add (mod1000 _).1 (mod1000 _).2⟩
            · rw [upd_same, List.map_append]
              rfl
            · rw [upd_ne (ne_of_none e hp)]
              exact s2 b o e
        · rintro σ H2 ⟨v, x4, ts, rfl, hL2, s2, ht2⟩
          exact ⟨_, _, _, ts, rfl, hL2, s2, ht2.mono (by omega)⟩
    · rintro σ H1 ⟨x2, x3, x4, ts, rfl, hL, s1, ht⟩
      rw [List.length_map] at ht
      exact ⟨_, rfl, k p H1 ts hp s1 hL (ht.mono (by omega))⟩
theorem ok_law_at (T : Top K mg) : FnC P w K mg base CX0 1 (He.ga K "_law_at") (spAt K) := by
  refine fnc0 T.d__law_at sc__law_at (fun _ _ _ _ _ _ us hl => match us, hl with | [_, _], _ => rfl) (fun vs H Q E h => ?_) (fun cdv A outer s H vs Q E hr h => ?_)
  · obtain ⟨a, ts, j, rfl, _⟩ := h
    rfl
  · obtain ⟨a, ts, j, rfl, hS, h0, k⟩ := h
    obtain ⟨j, rfl⟩ : ∃ n : Nat, j = (n : Int) := ⟨j.toNat, by omega⟩
    have k := k _ rfl
    rw [Int.toNat_natCast] at k
    refine ⟨_, (pss_cons (ps_if (pt_cmpR op_lt (pv 1) (pe_callB call_len_seq (by rfl) T.b_len PySem.boot_len (pa_cons (pv 0) pa_nil)) (nomark _)) (pss_one (ps_ret (pe_ix ix_list (pv 0) (pv 1) (fun _ _ => rfl)))) pss_nil)
    (pss_one (ps_ret pe_int))), ?_⟩
    refine ⟨_, rfl, _, rfl, a, _, rfl, .inl hS, _, _, rfl, rfl, _, rfl, ?_⟩
    rw [List.length_map]
    refine ite2 (fun c => ?_) (fun c => ?_)
    · have hj : j < ts.length := by
        have := of_decide_eq_true c
        omega
      have hx : (ts.map V.int)[j]? = some (V.int (ts[j]?.getD 0)) := by
        rw [List.getElem?_map, List.getElem?_eq_getElem hj]
        rfl
      exact ⟨_, rfl, _, rfl, a, _, _, _, rfl, rfl, hS, atI_n hx, k⟩
    · have hj : ts.length ≤ j := by
        have := of_decide_eq_false (by simpa using c : decide ((j : Int) < (ts.length : Int)) = false)
        omega
      rw [List.getElem?_eq_none hj] at k
      exact k
end
end Rb
namespace Rb
open PySem PySem.Spec PyProof.Rows L2
theorem ite_nd {x : V} {A B : Prop} (h : B) : if (!decide (x = x)) = true then A else B := by
  rw [if_neg (by simp)]
  exact h
theorem tape_at {ts : List Int} (h : TapeL 3780 ts) (j : Nat) : 0 ≤ ts[j]?.getD 0 ∧ ts[j]?.getD 0 < 1000 := by
  cases e : ts[j]? with
  | none => exact ⟨Int.le_refl _, by show (0 : Int) < 1000; decide⟩
  | some t => exact h.2 t (List.mem_of_getElem? e)
theorem ok_read : PyData.strOk "read" = true := by decide +kernel
theorem ok_write : PyData.strOk "write" = true := by decide +kernel
theorem ok_done : PyData.strOk "done" = true := by decide +kernel
theorem shaped_ent (wh n tg : Nat) : SeqAt.shaped (entD wh n tg) = true := by
  unfold entD
  split
  · split <;> (simp only [SeqAt.shaped, PyData.canLay0, PyData.canLayAll0, PyData.depth, PyData.depthAll, ok_read, ok_write]; rfl)
  · simp only [SeqAt.shaped, PyData.canLay0, PyData.canLayAll0, PyData.depth, PyData.depthAll, ok_done]
    rfl
/-- the ring: w entries are written, r of them read -/
def Ring (A : AM) (wh w : Nat) (tg : Nat → Nat) : Prop := (∀ m, m < w → w ≤ m + 4 → A.cells[wh * 4 + m % 4]? = some (entD wh m (tg m))) ∧ ∀ j, j < 4 → w ≤ j → A.cells[wh * 4 + j]? = some .none
def wrD (wh w : Nat) (tg : Nat → Nat) : List PyData := (List.range w).map fun m => entD wh m (tg m)
theorem wrD_nl (wh w : Nat) (tg : Nat → Nat) : noLs (wrD wh w tg) = true := noLs_map (fun m => (entD_val wh m (tg m)).2.1) _
theorem wrD_len (wh w : Nat) (tg : Nat → Nat) : (wrD wh w tg).length = w := by
  unfold wrD
  rw [List.length_map, List.length_range]
theorem wrD_at {wh w r : Nat} {tg : Nat → Nat} (h : r < w) : (wrD wh w tg)[r]? = some (entD wh r (tg r)) := by
  unfold wrD
  rw [List.getElem?_map, List.getElem?_range h]
  rfl
/-- one more -/
def tgUp (tg : Nat → Nat) (w t : Nat) : Nat → Nat := fun m => if m = w then t else tg m
theorem wrD_add {wh w t : Nat} {tg : Nat → Nat} : wrD wh (w + 1) (tgUp tg w t) = wrD wh w tg ++ [entD wh w t] := by
  unfold wrD
  rw [List.range_succ, List.map_append]
  congr 1
  · refine List.map_congr_left fun m hm => ?_
    unfold tgUp
    rw [if_neg (Nat.ne_of_lt (List.mem_range.mp hm))]
  · show [entD wh w (tgUp tg w t w)] = _
    unfold tgUp
    rw [if_pos rfl]
theorem Ring.add {A A' : AM} {wh w t : Nat} {tg : Nat → Nat} (h : Ring A wh w tg) (hc : A'.cells = A.cells.set (wh * 4 + w % 4) (entD wh w t)) (hl : wh * 4 + w % 4 < A.cells.length) : Ring A' wh (w + 1) (tgUp tg w t) := by
  refine ⟨fun m hm hw => ?_, fun j hj hw => ?_⟩
  · rw [hc, List.getElem?_set]
    unfold tgUp
    by_cases q : m = w
    · subst q
      rw [if_pos rfl, if_pos hl, if_pos rfl]
    · rw [if_neg (by omega), if_neg q]
      exact h.1 m (by omega) (by omega)
  · rw [hc, List.getElem?_set, if_neg (by omega)]
    exact h.2 j hj (by omega)
/-- what is read next -/
def nxt (w r : Nat) (tg : Nat → Nat) : Option (Nat × Nat) := if r < w then some (r, tg r) else if 4 ≤ r then some (r - 4, tg (r - 4)) else none
theorem Ring.nxt {A : AM} {wh w r : Nat} {tg : Nat → Nat} (h : Ring A wh w tg) (h1 : r ≤ w) (h2 : w ≤ r + 4) : A.cells[wh * 4 + r % 4]? = some (slD wh (nxt w r tg)) := by
  unfold Rb.nxt
  by_cases c : r < w
  · rw [if_pos c]
    exact h.1 r c h2
  · have e : r = w := by omega
    subst e
    rw [if_neg c]
    by_cases c4 : 4 ≤ r
    · rw [if_pos c4]
      have := h.1 (r - 4) (by omega) (by omega)
      rw [show (r - 4) % 4 = r % 4 by omega] at this
      exact this
    · rw [if_neg c4, show r % 4 = r by omega]
      exact h.2 r (by omega) (Nat.le_refl _)
theorem newB_nxt {wh w r : Nat} {tg : Nat → Nat} (hwh : wh < 2) (h1 : r ≤ w) : newB wh (nxt w r tg) r = decide ((r : Int) < (w : Int)) := by
  unfold Rb.nxt
  by_cases c : r < w
  · rw [if_pos c, decide_eq_true (by omega)]
    show (if wh = 0 then decide (r = r) else decide (phI (r : Int) = phI (r : Int))) = true
    split <;> exact decide_eq_true rfl
  · rw [if_neg c, decide_eq_false (by omega)]
    by_cases c4 : 4 ≤ r
    · rw [if_pos c4]
      show (if wh = 0 then decide (r - 4 = r) else decide (phI ((r - 4 : Nat) : Int) = phI (r : Int))) = false
      split
      · exact decide_eq_false (by omega)
      · refine decide_eq_false ?_
        unfold phI
        omega
    · rw [if_neg c4]
      rfl
def spLaw (K : PySem.W.Frag) : Sp := fun vs H Q _ => ∃ (a : Addr) (ns : List Int), vs = [.ref a] ∧ SqL K H a (ns.map V.int) ∧ ns.length ≤ 63 ∧ ∀ H', Q (.bl true) H'
section
variable {P : Program} {w : World} {K : PySem.W.Frag} {mg : Str → Option Value} {base : Heap}
theorem ok_law (T : Top K mg) (TB : ∃ es n, KDict K w (He.ga K "FORMS") es n) {fd : FuncData} (F : FunD K "law" "law" (defArgs s_law) (defBody s_law) (defScope s_law) [] [] (He.ga K "law") fd) : FnOk P w K mg base CX0 9 (He.ga K "law") fd ["script"] (spLaw K) := by
  have G__law_tape := ok_law_tape (P := P) (w := w) (base := base) T
  have G__law_at := ok_law_at (P := P) (w := w) (base := base) T
  have G_Memory___init__ := ok_Memory_init (P := P) (w := w) (base := base) T
  have G_Memory_access := ok_acc (P := P) (w := w) (base := base) T TB
  have G_table_word := ok_table_word (P := P) (w := w) (base := base) T
  have G__law_empty := ok_law_empty (P := P) (w := w) (base := base) T TB
  have G__law_write := ok_law_write (P := P) (w := w) (base := base) T TB
  have G__law_read := ok_law_read (P := P) (w := w) (base := base) T TB
  refine fnk0 F sc_law (fun vs H Q E h => ?_) (fun cdv A outer s H vs Q E hr h => ?_)
  · obtain ⟨a, ns, rfl, _⟩ := h
    rfl
  · obtain ⟨a, ns, rfl, hS, hlen, k⟩ := h
    have hu := hu_of hr
    have hu64 := hr.units
    refine ⟨_, (pss_cons (ps_set (i := 1) sc_law.nd rfl (Or.inl rfl) (pe_f G__law_tape hr (by decide) (by rfl) T.g__law_tape pass0 (pa_cons (pv 0) pa_nil)))
    (pss_cons (ps_set (i := 2) sc_law.nd rfl (Or.inl rfl) (pe_op op_mod (pe_f G__law_at hr (by decide) (by rfl) T.g__law_at pass0 (pa_cons (pv 1) (pa_cons pe_int pa_nil))) pe_int))
    (pss_cons (ps_set (i := 3) sc_law.nd rfl (Or.inl rfl) (pe_k0 G_Memory___init__ hr (by decide) (by rfl) T.g_Memory T.mk_Memory pass0))
    (pss_cons (ps_expr (pe_m G_Memory_access hr (by decide) T.cl_Memory T.me_Memory_access passL (pv 3) (pa_cons (pe_tup (pa_cons pe_str (pa_cons pe_int pa_nil))) (pa_cons (pe_tup (pa_cons pe_str (pa_cons (pe_f G_table_word hr (by decide) (by rfl) T.g_table_word pass0 (pa_cons pe_int (pa_cons pe_int pa_nil))) (pa_cons (pe_tup (pa_cons pe_int (pa_cons pe_str pa_nil))) pa_nil)))) pa_nil))))
    (pss_cons (ps_expr (pe_m G_Memory_access hr (by decide) T.cl_Memory T.me_Memory_access passL (pv 3) (pa_cons (pe_tup (pa_cons pe_str (pa_cons pe_int pa_nil))) (pa_cons (pe_tup (pa_cons pe_str (pa_cons (pe_f G_table_word hr (by decide) (by rfl) T.g_table_word pass0 (pa_cons pe_int (pa_cons pe_int pa_nil))) (pa_cons (pe_tup (pa_cons pe_int (pa_cons pe_str pa_nil))) pa_nil)))) pa_nil))))
    (pss_cons (ps_set (i := 4) sc_law.nd rfl (Or.inl rfl) (pe_lst pa_nil))
    (pss_cons (ps_set (i := 5) sc_law.nd rfl (Or.inl rfl) pe_int)
    (pss_cons (ps_set (i := 6) sc_law.nd rfl (Or.inl rfl) (pe_op op_add pe_int (pe_op op_mod (pe_f G__law_at hr (by decide) (by rfl) T.g__law_at pass0 (pa_cons (pv 1) (pa_cons pe_int pa_nil))) pe_int)))
    (pss_cons (ps_for PassesOwn.never rfl (pi_range1 (by rfl) T.b_range (pa_cons (pe_callB (call_min2 rfl) (by rfl) T.b_min (by decide +kernel) (pa_cons pe_int (pa_cons (pe_callB (call_max2 rfl) (by rfl) T.b_max (by decide +kernel) (pa_cons pe_int (pa_cons (pe_op op_sub (pe_callB call_len_seq (by rfl) T.b_len PySem.boot_len (pa_cons (pv 1) pa_nil)) pe_int) pa_nil))) pa_nil))) pa_nil)) (pg_name (i := 7) sc_law.nd rfl (Or.inl rfl)) (pss_cons (ps_set (i := 8) sc_law.nd rfl (Or.inl rfl) (pe_f G__law_at hr (by decide) (by rfl) T.g__law_at pass0 (pa_cons (pv 1) (pa_cons (pe_op op_add (pv 7) pe_int) pa_nil))))
    (pss_cons (ps_join (ps_if (pt_cmpR op_eq (pv 7) (pv 6) (nomark _)) (pss_cons (ps_expr (pe_f G__law_empty hr (by decide) (by rfl) T.g__law_empty pass0 (pa_cons (pv 3) (pa_cons (pv 2) pa_nil))))
    (pss_cons (ps_set (i := 4) sc_law.nd rfl (Or.inl rfl) (pe_lst pa_nil))
    (pss_one (ps_set (i := 5) sc_law.nd rfl (Or.inl rfl) pe_int)))) pss_nil))
    (pss_one (ps_if (PW.pt (pw_and (pt_cmpR op_eq (pe_op op_mod (pv 8) pe_int) pe_int (nomark _)) (pw_and1 (pt_cmpR op_lt (pe_callB call_len_seq (by rfl) T.b_len PySem.boot_len (pa_cons (pv 4) pa_nil)) (pe_op op_add (pv 5) pe_int) (nomark _))))) (pss_cons (ps_set (i := 9) sc_law.nd rfl (Or.inl rfl) (pe_f G__law_write hr (by decide) (by rfl) T.g__law_write pass0 (pa_cons (pv 3) (pa_cons (pv 2) (pa_cons (pe_callB call_len_seq (by rfl) T.b_len PySem.boot_len (pa_cons (pv 4) pa_nil)) (pa_cons (pe_op op_mod (pe_op op_fdiv (pv 8) pe_int) pe_int) pa_nil))))))
    (pss_cons (ps_if (pt_cmp (pc_isN (pv 9))) (pss_one (ps_ret pe_bl)) pss_nil)
    (pss_one (ps_expr (pe_bm PySem.F.plainAttrs_list PySem.F.slot_list_append PySem.F.type_list_append mt_append (pv 4) (pa_cons (pv 9) pa_nil)))))) (pss_one (ps_if (pt_cmpR op_eq (pe_op op_mod (pv 8) pe_int) pe_int (nomark _)) (pss_cons (ps_set (i := 10) sc_law.nd rfl (Or.inl rfl) (pe_f G__law_read hr (by decide) (by rfl) T.g__law_read pass0 (pa_cons (pv 3) (pa_cons (pv 2) (pa_cons (pv 5) pa_nil)))))
    (pss_cons (ps_if (PW.pt (pw_or (pt_cmp (pc_isN (pv 10))) (pw_or (pt_not (pt_val (pe_callB call_isi (by rfl) T.b_isinstance (by decide +kernel) (pa_cons (pe_ix ix_tup (pv 10) pe_int (fun _ _ => rfl)) (pa_cons (pe_bltn (v := .ty "bool") (by rfl) T.b_bool (by decide +kernel) rfl) pa_nil))))) (pw_or1 (pt_cmpR op_ne (pe_ix ix_tup (pv 10) pe_int (fun _ _ => rfl)) (pe_cmpR op_lt (pv 5) (pe_callB call_len_seq (by rfl) T.b_len PySem.boot_len (pa_cons (pv 4) pa_nil)) (nomark _)) (nomark _)))))) (pss_one (ps_ret pe_bl)) pss_nil)
    (pss_one (ps_if (pt_val (pe_ix ix_tup (pv 10) pe_int (fun _ _ => rfl))) (pss_cons (ps_if (pt_cmpR (op_neD hu64) (pe_ix ix_tup (pv 10) pe_int (fun _ _ => rfl)) (pe_ix ix_list (pv 4) (pv 5) (fun _ _ => rfl)) (nomark _)) (pss_one (ps_ret pe_bl)) pss_nil)
    (pss_one (ps_set (i := 5) sc_law.nd rfl (Or.inl rfl) (pe_op op_add (pv 5) pe_int)))) pss_nil)))) pss_nil)))))))
    (pss_one (ps_ret pe_bl))))))))))), ?_⟩
    refine ⟨_, rfl, a, ns, rfl, hS, hlen, fun tp H1 ts htp s1 e1 hT => ?_⟩
    have eL : ∀ {H'}, H' tp = some (.lst (ts.map V.int)) → SqL K H' tp (ts.map V.int) := fun e => SqL.of e
    refine ⟨_, rfl, tp, ts, 0, rfl, eL e1, by decide, fun x0 hx0 => ⟨_, _, rfl, rfl, (by show (0 : Int) < 2; decide), ?_⟩⟩
    obtain ⟨wh, hwh, ewh⟩ : ∃ wh : Nat, wh < 2 ∧ x0 % 2 = (wh : Int) := ⟨(x0 % 2).toNat, by omega, by omega⟩
    dsimp only
    rw [ewh]
    intro m dm hm hdm nmd
    refine ⟨m, dm, rfl, upd_same, by rw [upd_ne nmd, upd_same], nmd.symm, fun L H6 z t eL1 eL2 MA fr hz ht kp => ⟨rfl, ?_⟩⟩
    subst eL1 eL2
    have s6 : Same H1 H6 := fun b o hb => by
      refine kp b o ?_ (ne_of_none hb hm)
      rw [upd_ne (ne_of_none hb hm), upd_ne (ne_of_none hb hdm)]
      exact hb
    have e6 := s6 _ _ e1
    have ntL : tp ∉ L.all := fun z => by
      rcases fr tp z with q | q | q
      · exact ne_of_none e1 hm q
      · exact ne_of_none e1 hdm q
      · rw [upd_ne (ne_of_none e1 hm), upd_ne (ne_of_none e1 hdm), e1] at q
        cases q
    have ab0 := abs0 MA hz ht
    -- the ring pages are lent
    refine ⟨_, rfl, L.m, L.d, _, rfl, ab0.mem.om, zn (by decide +kernel), (by show 2 ≤ sizeLine; decide), fun a1 f1 => ?_⟩
    have g1 := Same.new (o := HO.tup [V.str "driver", .int 0]) (Same.refl _) f1
    refine ⟨_, _, rfl, (by show 2 ≤ sizeLine; decide), fun a2 f2 => ⟨(by show 3 ≤ sizeLine; decide), fun a3 f3 => ?_⟩⟩
    have g2 := Same.new (o := HO.tup [V.int 0, .str "r"]) (Same.refl _) f2
    have g3 := Same.new (o := HO.tup [V.str "write", .int (tword 0 0), .ref a2]) (Same.refl _) f3
    have g13 := (g1.trans g2).trans g3
    dsimp only [tNil, List.append_nil]
    refine acc_write (c := 56) (d := 0) (dv := .tuple [.int 0, .str "r"]) (ab0.same g13) (by decide) (by decide) (Same.seqT (g2.trans g3) (SqT.of upd_same)) (SqT.of upd_same) (.tup (SqT.of (g3 _ _ upd_same)) (.cons (.int _) (.cons (.str _) .nil))) rfl rfl (by decide) (may_drv (by decide) (.inr (.inr (.inl (by decide))))) (by decide) (fun d' hd' p hp e => .inr ⟨0, "r", rfl, by decide, .inl rfl⟩) fun u1 H7 M1 ab1 kl1 hu1 eu1 => ?_
    have kl1' : KL L H6 H7 := (KL.of g13).trans kl1
    clear f1 f2 f3 g1 g2 g3 g13 hu1 eu1 kl1
    refine ⟨_, rfl, L.m, L.d, _, rfl, ab1.mem.om, zn (by decide +kernel), (by show 2 ≤ sizeLine; decide), fun a1 f1 => ?_⟩
    have g1 := Same.new (o := HO.tup [V.str "driver", .int 0]) (Same.refl _) f1
    refine ⟨_, _, rfl, (by show 2 ≤ sizeLine; decide), fun a2 f2 => ⟨(by show 3 ≤ sizeLine; decide), fun a3 f3 => ?_⟩⟩
    have g2 := Same.new (o := HO.tup [V.int 1, .str "w"]) (Same.refl _) f2
    have g3 := Same.new (o := HO.tup [V.str "write", .int (tword 0 1), .ref a2]) (Same.refl _) f3
    have g13 := (g1.trans g2).trans g3
    dsimp only [tNil, List.append_nil]
    refine acc_write (c := 57) (d := 0) (dv := .tuple [.int 1, .str "w"]) (ab1.same g13) (by decide) (by decide) (Same.seqT (g2.trans g3) (SqT.of upd_same)) (SqT.of upd_same) (.tup (SqT.of (g3 _ _ upd_same)) (.cons (.int _) (.cons (.str _) .nil))) rfl rfl (by decide) (may_drv (by decide) (.inr (.inr (.inl (by decide))))) (by decide) (fun d' hd' p hp e => .inr ⟨1, "w", rfl, by decide, .inr rfl⟩) fun u2 H8 M2 ab2 kl2 hu2 eu2 => ?_
    have kl : KL L H6 H8 := kl1'.trans ((KL.of g13).trans kl2)
    clear f1 f2 f3 g1 g2 g3 g13 hu2 eu2 kl2
    generalize hA2 : ({ cells := (A0.cells.set 56 (.tuple [.int 0, .str "r"])).set 57 (.tuple [.int 1, .str "w"]), ent := A0.ent, que := A0.que, tix := A0.tix, jo := A0.jo, bl := A0.bl, log := (A0.log ++ [logD ((A0.log.length : Int) + 1) "driver" 0 "write" [.int ((56 : Nat) : Int), .tuple [.int 0, .str "r"]] .none]) ++ [logD (((A0.log ++ [logD ((A0.log.length : Int) + 1) "driver" 0 "write" [.int ((56 : Nat) : Int), .tuple [.int 0, .str "r"]] .none]).length : Int) + 1) "driver" 0 "write" [.int ((57 : Nat) : Int), .tuple [.int 1, .str "w"]] .none] } : AM) = A2 at ab2
    have cA : A2.cells = (A0.cells.set 56 (.tuple [.int 0, .str "r"])).set 57 (.tuple [.int 1, .str "w"]) := by rw [← hA2]
    have eA : A2.ent = A0.ent := by rw [← hA2]
    have l70 : A0.cells.length = 70 := by
      show (cells0.map vD).length = 70
      rw [List.length_map]
      exact cells0_70
    have W2 : WW A2 := by
      refine ⟨?_, ?_⟩
      · unfold useW
        rw [eA, cA]
        show ((((A0.cells.set 56 (.tuple [.int 0, .str "r"])).set 57 (.tuple [.int 1, .str "w"]))[56]?).getD .none) = _
        rw [List.getElem?_set, if_neg (by decide), List.getElem?_set, if_pos rfl, if_pos (by rw [l70]; decide)]
        rfl
      · unfold useW
        rw [eA, cA]
        show ((((A0.cells.set 56 (.tuple [.int 0, .str "r"])).set 57 (.tuple [.int 1, .str "w"]))[57]?).getD .none) = _
        rw [List.getElem?_set, if_pos rfl, if_pos (by rw [List.length_set, l70]; decide)]
        rfl
    have R2 : Ring A2 wh 0 (fun _ => 0) := by
      refine ⟨fun m hm => absurd hm (by omega), fun j hj _ => ?_⟩
      rw [cA, List.getElem?_set, if_neg (by omega), List.getElem?_set, if_neg (by omega)]
      show (cells0.map vD)[wh * 4 + j]? = _
      rw [List.getElem?_map, cells0_is _ (by omega), if_pos (by omega)]
      rfl
    clear hA2 cA eA
    have e8 := kl _ _ e6 ntL
    refine ⟨by decide, fun wp fw => ?_⟩
    have g1 := Same.new (o := HO.lst []) (Same.refl _) fw
    have ab3 := ab2.same g1
    have nwL := ab2.mem.nin fw
    have nwt : wp ≠ tp := (ne_of_none e8 fw).symm
    refine ⟨_, rfl, tp, ts, 1, rfl, eL (g1 _ _ e8), by decide, fun x1 hx1 => ⟨_, _, rfl, rfl, (by show (0 : Int) < 60; decide), _, _, rfl, rfl, ?_⟩⟩
    clear hx1
    refine ⟨_, rfl, tp, _, rfl, .inl (eL (g1 _ _ e8)), _, _, rfl, rfl, _, _, rfl, _, _, rfl, ?_⟩
    rw [List.length_map]
    generalize hn : (if (if (ts.length : Int) - 2 > 0 then (ts.length : Int) - 2 else 0) < 110 then (if (ts.length : Int) - 2 > 0 then (ts.length : Int) - 2 else 0) else 110) = n
    have hn1 : 0 ≤ n ∧ n ≤ 110 := by
      subst hn
      split <;> split <;> omega
    refine ⟨n, rfl, by omega, by omega, for_range (n := n.toNat) (fun i σ H' => ∃ x8 x9 x10 x7 wp ws w r, ∃ tg : Nat → Nat, ∃ M A N, σ = [some (.ref a), some (.ref tp), some (.int (wh : Int)), some (.ref L.m), some (.ref wp), some (.int ((r : Nat) : Int)), some (.int (30 + x1 % 60)), x7, x8, x9, x10] ∧
      Abs K H' L M A N ∧ N ≤ 2 + 5 * i ∧ H' tp = some (.lst (ts.map V.int)) ∧ H' wp = some (.lst ws) ∧ wp ∉ L.all ∧ wp ≠ tp ∧ DpAll K H' ws (wrD wh w tg) ∧ r ≤ w ∧ w ≤ r + 4 ∧ w ≤ i ∧ (∀ m, tg m < 4) ∧ WW A ∧ Ring A wh w tg) ?_ ?_ ?_⟩
    · exact ⟨_, _, _, _, wp, [], 0, 0, fun _ => 0, M2, A2, 2, rfl, ab3, by decide, g1 _ _ e8, upd_same, nwL, nwt, .nil, Nat.le_refl _, by decide, Nat.le_refl _, (fun _ => (by decide : 0 < 4)), W2, R2⟩
    · clear nwL nwt fw g1 ab3 W2 R2 e8 kl ab0 ab2 ab1
      rintro i σ H9 hi ⟨x8, x9, x10, x7, wp, ws, w, r, tg, M, A, N, rfl, hA, hN, e9, ew, nwL, nwt, hws, hrw, hwr, hwi, ht4, hW, hR⟩
      -- number
      refine ⟨_, rfl, _, rfl, _, _, rfl, rfl, tp, ts, _, rfl, eL e9, (by omega), fun nb hnb => ?_⟩
      clear hnb
      -- if k == anew
      refine ⟨fun σ' H' => ∃ wp ws w r, ∃ tg : Nat → Nat, ∃ M A N, σ' = [some (.ref a), some (.ref tp), some (.int (wh : Int)), some (.ref L.m), some (.ref wp), some (.int ((r : Nat) : Int)), some (.int (30 + x1 % 60)), some (.int (0 + (i : Int))), some (.int nb), x9, x10] ∧
        Abs K H' L M A N ∧ N ≤ 6 + 5 * i ∧ H' tp = some (.lst (ts.map V.int)) ∧ H' wp = some (.lst ws) ∧ wp ∉ L.all ∧ wp ≠ tp ∧ DpAll K H' ws (wrD wh w tg) ∧ r ≤ w ∧ w ≤ r + 4 ∧ w ≤ i ∧ (∀ m, tg m < 4) ∧ WW A ∧ Ring A wh w tg, ?_, ?_⟩
      · refine ⟨_, rfl, _, rfl, rfl, _, rfl, ?_⟩
        refine ite2 (fun _ => ?_) (fun _ => ?_)
        · refine ⟨_, rfl, _, rfl, L, M, A, N, wh, rfl, hA, by omega, hW, hwh, fun H' M' A' hA' kl' hW' hn => ?_⟩
          refine ⟨by decide, fun wp2 fw2 => ?_⟩
          have g1 := Same.new (o := HO.lst []) (Same.refl _) fw2
          have e' := kl' _ _ e9 ntL
          exact ⟨wp2, [], 0, 0, fun _ => 0, M', A', N + 4, rfl, hA'.same g1, by omega, g1 _ _ e', upd_same, hA'.mem.nin fw2, (ne_of_none e' fw2).symm, .nil, Nat.le_refl _, by decide, Nat.zero_le _, (fun _ => (by decide : 0 < 4)), hW', ⟨fun m hm => absurd hm (by omega), fun j hj _ => hn j hj⟩⟩
        · exact ⟨wp, ws, w, r, tg, M, A, N, rfl, hA, by omega, e9, ew, nwL, nwt, hws, hrw, hwr, hwi, ht4, hW, hR⟩
      clear hA hN e9 ew nwL nwt hws hrw hwr hwi ht4 hW hR
      rintro σ' H9 ⟨wp, ws, w, r, tg, M, A, N, rfl, hA, hN, e9, ew, nwL, nwt, hws, hrw, hwr, hwi, ht4, hW, hR⟩
      have elw : ws.length = w := by rw [Rb.DpAll.len hws, wrD_len]
      refine ⟨_, rfl, _, _, rfl, rfl, (by show (0 : Int) < 2; decide), rfl, _, rfl, ?_⟩
      have odd : (decide (V.int (nb % 2) = V.int 1)) = decide (nb % 2 = 1) := by
        by_cases c : nb % 2 = 1
        · rw [c, decide_eq_true rfl, decide_eq_true rfl]
        · rw [decide_eq_false c, decide_eq_false (fun z => c (by injection z))]
      have even : (decide (V.int (nb % 2) = V.int 0)) = decide (nb % 2 = 0) := by
        by_cases c : nb % 2 = 0
        · rw [c, decide_eq_true rfl, decide_eq_true rfl]
        · rw [decide_eq_false c, decide_eq_false (fun z => c (by injection z))]
      show if decide (V.int (nb % 2) = V.int 0) = true then _ else _
      rw [even]
      by_cases c0 : nb % 2 = 0
      · rw [decide_eq_true c0, if_pos rfl]
        refine ⟨_, rfl, wp, ws, rfl, .inl (SqL.of ew), _, rfl, _, _, rfl, rfl, _, _, rfl, rfl, _, rfl, ?_⟩
        refine ite2 (fun c1 => ?_) (fun _ => ?_)
        · -- it is written
          have c1' : ws.length < r + 4 := by
            have := of_decide_eq_true c1
            omega
          obtain ⟨tgN, htg, etg⟩ : ∃ tgN : Nat, tgN < 4 ∧ nb / 2 % 4 = (tgN : Int) := ⟨(nb / 2 % 4).toNat, by omega, by omega⟩
          refine ⟨_, rfl, _, rfl, _, rfl, wp, ws, rfl, .inl (SqL.of ew), _, rfl, _, _, rfl, rfl, ⟨by decide, by decide⟩, _, _, rfl, rfl, (by show (0 : Int) < 4; decide), ?_⟩
          refine ⟨L, M, A, N, wh, ws.length, tgN, (by show [V.ref L.m, V.int (wh : Int), V.int (ws.length : Int), V.int (nb / 2 % 4)] = _; rw [etg]), hA, by omega, hW, hwh, htg, fun v H' M' A' hA' kl' hW' hc hv hne => ?_⟩
          have ew' := kl' _ _ ew nwL
          have e' := kl' _ _ e9 ntL
          have hws' : DpAll K H' ws (wrD wh w tg) := Rb.DpAll.ts (kl'.ts hA.mem) _ _ (wrD_nl wh w tg) hws
          refine ⟨_, rfl, _, rfl, ?_⟩
          show if decide (v = V.non) = true then _ else _
          rw [decide_eq_false hne, if_neg (by decide)]
          refine ⟨_, rfl, .inl ⟨rfl, _, SqL.of ew'⟩, _, rfl, wp, ws, _, rfl, rfl, ew', Nat.lt_of_le_of_lt (show ws.length ≤ 200 by omega) (by decide), ?_⟩
          have ts : TSame K H' (upd H' wp (.lst (ws ++ [v]))) := TSame.lst ew'
          have hA2 := hA'.move (H' := upd H' wp (.lst (ws ++ [v]))) (hA'.mem.keep fun b hb => upd_ne (fun z => nwL (z ▸ hb))) ts
          rw [elw] at hc hv
          refine ⟨_, _, _, _, wp, ws ++ [v], w + 1, r, tgUp tg w tgN, M', A', N + 1, rfl, hA2, by omega, ?_, upd_same, nwL, nwt, ?_, by omega, by omega, by omega, (fun m => by unfold tgUp; split <;> first | exact htg | exact ht4 m), hW', hR.add hc (by rw [hA.c7]; omega)⟩
          · rw [upd_ne nwt.symm]
            exact e'
          · rw [wrD_add]
            exact Rb.DpAll.app (Rb.DpAll.ts ts _ _ (wrD_nl wh w tg) hws') (.cons (Rb.Dp.ts ts _ _ (entD_val wh w tgN).2.1 hv) .nil)
        · refine ⟨_, rfl, _, _, rfl, rfl, (by show (0 : Int) < 2; decide), rfl, _, rfl, ?_⟩
          show if decide (V.int (nb % 2) = V.int 1) = true then _ else _
          rw [odd, decide_eq_false (by omega), if_neg (by decide)]
          exact ⟨_, _, _, _, wp, ws, w, r, tg, M, A, N, rfl, hA, by omega, e9, ew, nwL, nwt, hws, hrw, hwr, by omega, ht4, hW, hR⟩
      · rw [decide_eq_false c0, if_neg (by decide)]
        refine ⟨_, rfl, _, _, rfl, rfl, (by show (0 : Int) < 2; decide), rfl, _, rfl, ?_⟩
        show if decide (V.int (nb % 2) = V.int 1) = true then _ else _
        rw [odd, decide_eq_true (by omega), if_pos rfl]
        -- it is read
        refine ⟨_, rfl, _, rfl, _, rfl, ?_⟩
        refine ⟨L, M, A, N, wh, r, nxt w r tg, rfl, hA, by omega, hW, hwh, hR.nxt hrw hwr, ?_, fun t1 v H' M' A' hA' kl' hW' hc ht1 hv => ?_⟩
        · intro m' t' e
          unfold Rb.nxt at e
          split at e
          · injection e with e
            injection e with e1 e2
            rw [← e2]
            exact ht4 _
          · split at e
            · injection e with e
              injection e with e1 e2
              rw [← e2]
              exact ht4 _
            · cases e
        rw [newB_nxt hwh hrw] at ht1
        have ew' := kl' _ _ ew nwL
        have e' := kl' _ _ e9 ntL
        have hws' : DpAll K H' ws (wrD wh w tg) := Rb.DpAll.ts (kl'.ts hA.mem) _ _ (wrD_nl wh w tg) hws
        have hR' : Ring A' wh w tg := by
          unfold Ring
          rw [hc]
          exact hR
        refine ⟨_, rfl, _, rfl, ?_⟩
        show if decide (V.ref t1 = V.non) = true then _ else _
        rw [if_neg (by simp)]
        refine ⟨_, rfl, t1, _, _, _, rfl, rfl, SqT.of ht1, rfl, _, _, _, _, true, rfl, .ty _, .base (.bl _), kit_ty (a := "bool") (b := "bool") (by decide +kernel), _, rfl, ?_⟩
        refine ⟨_, rfl, t1, _, _, _, rfl, rfl, SqT.of ht1, rfl, _, rfl, _, rfl, wp, ws, rfl, .inl (SqL.of ew'), _, _, rfl, rfl, rfl, _, rfl, ?_⟩
        rw [elw]
        refine ite_nd ?_
        refine ⟨_, rfl, t1, _, _, _, rfl, rfl, SqT.of ht1, rfl, _, rfl, ?_⟩
        by_cases cr : r < w
        · rw [decide_eq_true (by omega : (r : Int) < (w : Int))]
          have eo : nxt w r tg = some (r, tg r) := by
            unfold Rb.nxt
            rw [if_pos cr]
          rw [eo] at hv
          obtain ⟨u, hu1, hu2⟩ := dpAll_get' hws' (wrD_at (wh := wh) (tg := tg) cr)
          refine ⟨_, rfl, t1, _, _, _, rfl, rfl, SqT.of ht1, rfl, _, rfl, _, rfl, wp, _, _, _, rfl, rfl, SqL.of ew', atI_n hu1, ?_⟩
          refine ne_same hv hu2 (shaped_ent wh r (tg r)) (shaped_ent wh r (tg r)) (eqv_self (shaped_ent wh r (tg r))) ?_
          exact ⟨_, rfl, _, _, rfl, rfl, _, _, _, _, wp, ws, w, r + 1, tg, M', A', N + 1, rfl, hA', by omega, e', ew', nwL, nwt, hws', by omega, by omega, by omega, ht4, hW', hR'⟩
        · rw [decide_eq_false (by omega : ¬ (r : Int) < (w : Int))]
          exact ⟨_, _, _, _, wp, ws, w, r, tg, M', A', N + 1, rfl, hA', by omega, e', ew', nwL, nwt, hws', hrw, hwr, by omega, ht4, hW', hR'⟩
    · rintro σ H1 ⟨x8, x9, x10, x7, wp, ws, w, r, tg, M, A, N, rfl, _⟩
      exact k _
end
end Rb
namespace Rb
open PySem PySem.Spec PyProof.Rows L2
abbrev R : PySem.W.OpenRow := PySem.W.OpenLaw.row PySem.Challenge.rw_ringbound_k05_whole_rings
abbrev hk : PySem.W.Hook := hookR 4 fa fn ts exs
def ob (s : PySem.W.SharedT) : AlR := obsR 4 fa fn ts exs (HandSHeadRun.getT s)
theorem ob_eq (s : PySem.W.SharedT) : ob s = hk.obs s.abs := obsR_eq (HandSHeadRun.getT_eq s)
theorem run0 (w : World) : HandSHeadRun.RunEq R (PySem.W.view R.prog [lawAt]) hk ob 4000 loose (w.withFollow "special-get-raises" false) := by
  intro os
  kernel_rfl
theorem run1 (w : World) : HandSHeadRun.RunEq R (PySem.W.view R.prog [lawAt]) hk ob 4000 loose (w.withFollow "special-get-raises" true) := by
  intro os
  kernel_rfl
theorem run (w : World) : HandSHeadRun.RunEq R (PySem.W.view R.prog [lawAt]) hk ob 4000 loose w := PySem.W.byRow2 "special-get-raises" run0 run1 w
end Rb
namespace Rb
open PySem PySem.Spec PyProof.Rows L2
theorem facts {P : Program} {w : World} {K : PySem.W.Frag} {h : Heap} {mg : Str → Option Value} {f : Addr} (X : K.In h) (G : h.Ns mainGlobals mg) (hfa : mg ("law" : Str) = some (.ref f)) (c : SaysR fa fn ts exs w K) :
    ∃ fd : FuncData, (∀ (s : Shared) (v : Value), BindsTo s fd ⟨[v], []⟩ [("script", v)]) ∧ ∀ base : Heap, K.In base → base.Ns mainGlobals mg → FnOk P w K mg base CX0 9 f fd ["script"] (spLaw K) := by
  have T := top_of X G c
  obtain ⟨fd, F⟩ := T.d_law
  have e := hfa.symm.trans T.g_law
  cases e
  have b := FunD.bindsA (ps := ["script"]) F fun _ _ _ _ _ _ us hl => match us, hl with | [_], _ => rfl
  exact ⟨fd, fun s v => b s [v] rfl, fun base _ _ => ok_law T (tab_FORMS c) F⟩
end Rb
open PySem PySem.W PySem.Calls PyProof.Rows
theorem PySem.Challenge.cw_ringbound_k05_whole_rings_holds : PySem.Challenge.rw_ringbound_k05_whole_rings.Holds := by
  w_on; o_law
  refine HandSHeadRun.head_any (r := OpenLaw.row PySem.Challenge.rw_ringbound_k05_whole_rings) (q := view (OpenLaw.row PySem.Challenge.rw_ringbound_k05_whole_rings).prog [Rb.lawAt]) (H := Rb.hk) (ob := Rb.ob) (M := 4000) (loose := Rb.loose)
    (d := HandSHeadRun.topDef (OpenLaw.row PySem.Challenge.rw_ringbound_k05_whole_rings).prog Rb.lawAt) (kwd := []) Rb.ob_eq
    (by kernel_rfl) (fun s => by kernel_rfl) Rb.run (by kernel_rfl) (by kernel_rfl) (by kernel_rfl) (by rfl) (by first | assumption | decide +kernel) (by decide +kernel) ⟨rfl, rfl, rfl, rfl, rfl, by decide +kernel⟩ ?hw ?hc
  case hw => w_witness2
  case hc =>
    refine L2.walk_ofE (l := PySem.Challenge.rw_ringbound_k05_whole_rings) (n := 63) (k := 9) (x := "script") (CX := L2.CX0) rfl (by decide) (by kernel_rfl) ⟨rfl, by decide, by decide⟩ ?F (fun _ _ _ _ z => z)
    intro w mg fa h Y G hmg0
    obtain ⟨K, KX, c⟩ := Y
    have hmg : mg ("law" : PySem.Str) = some (.ref fa) := by
      have e : (HandSHeadRun.topDef (OpenLaw.row PySem.Challenge.rw_ringbound_k05_whole_rings).prog Rb.lawAt).name = ("law" : PySem.Str) := by kernel_rfl
      rw [← e]
      exact hmg0
    obtain ⟨fd, hb, hF⟩ := Rb.facts (P := (PySem.Challenge.rw_ringbound_k05_whole_rings).prog) (w := w) KX G hmg c
    exact ⟨K, fd, Rb.spLaw K, KX, hb, fun H a ns hl _ hS => ⟨a, ns, rfl, hS, hl, fun _ => rfl⟩, hF⟩
